"""Section 13: behind, fence, and which answers of fence are right."""

import random

from tests.bays import (
    all_hands, deal_bay, deal_bay_wish, deal_fence_book, draw_bay, fence_by_list, is_right_fence, is_right_standings,
)
from tests.odd import RefusingTestCase, nested, odd_values, with_each_part_changed, with_each_part_moved
from wobblesnap.books import Book
from wobblesnap.errors import BadHands, BadStanding, BadWish, NoGrid, TooMany
from wobblesnap.fences import Bay, behind, fence, shows_fence

BAY = Bay("hand 1\nfrom a 0 0\nfrom b 0 10\npoint c by a 10 0\npoint d cross c b\ngoes c d")
NEAR = Book("among eldest\nlevel 1")
CORNER = Book("among eldest\ncorner 1")
GRID = Book("among eldest\nlevel 1\ngrid 5")
SHORT = Bay("hand 1\nfrom a 0 0\npoint b by a 9 0\ngoes b")
# d is off by one in y in each bay; near the height of c, 0, it stays there.
DRIFT = Bay("hand 1\nfrom a 0 0\nfrom b 0 10\npoint c by a 10 0 within 0\npoint d by b 10 0\ngoes c d")
STRAIGHT = Book("among eldest\nstraight 1")


class Behind(RefusingTestCase):

    def test_the_example(self):
        self.assertEqual(behind(NEAR, BAY, (0, 10), ((11, 1), (10, 9))), (((11, 0), (11, 10)), (0, 10)))
        self.assertEqual(behind(hands=((11, 1), (10, 9)), standing=(0, 10), bay=BAY, book=NEAR),
                         (((11, 0), (11, 10)), (0, 10)))

    def test_kinds(self):
        for book, bay, standing, hands in ((NEAR, BAY, (0, 10), ((11, 1), (10, 9))), (NEAR, SHORT, (), ((9, 1),))):
            drawn, found = behind(book, bay, standing, hands)
            self.assertEqual([type(drawn), type(found)], [tuple, tuple])
            for place in drawn:
                self.assertEqual([type(place), type(place[0]), type(place[1])], [tuple, int, int])
            self.assertEqual(behind(book, bay, standing, hands), (drawn, found))

    def test_one_line_from(self):
        self.assertEqual(behind(NEAR, SHORT, (), ((9, 1),)), (((9, 0),), ()))
        self.assertEqual(behind(NEAR, SHORT, (), ((9, 2),)), (((9, 2),), ()))

    def test_any_standing_and_hands(self):
        # The hands need not be steady; nor need rows come to the standing.
        self.assertEqual(behind(NEAR, BAY, (-500, 700), ((99, 99), (-501, 3))), (((99, 99), (-500, 3)), (-599, -96)))
        self.assertEqual(behind(NEAR, BAY, (0, 0), ((0, 0), (0, 0))), (((0, 0), (0, 0)), (0, 0)))

    def test_which_points_go_on(self):
        text = "hand 1\nfrom a 0 0\nfrom b 3 4\npoint c by a 10 0\npoint d by b 10 0\ngoes "
        for goes, standing in (("c d", (3, 4)), ("d c", (-3, -4)), ("a b", (3, 4)), ("b a", (-3, -4)),
                               ("b c", (7, -4)), ("d a", (-13, -4)), ("a d", (13, 4))):
            self.assertEqual(behind(CORNER, Bay(text + goes), (3, 4), ((10, 0), (13, 4)))[1], standing)

    def test_points_of_from_are_elder_ones_in_sequence(self):
        hands = ((5, 1), (9, 9))
        for among, way in (("eldest", (5, 0)), ("latest", (5, 2))):
            bay = Bay("hand 1\nfrom a 0 0\nfrom b 20 2\npoint c by a 5 1\npoint d by a 9 9\ngoes a b")
            self.assertEqual(behind(Book(f"among {among}\nlevel 1"), bay, (20, 2), hands)[0], (way, (9, 9)))

    def test_straight_looks_at_the_last_one(self):
        bay = Bay("hand 1\nfrom a 0 0\nfrom b 20 2\npoint c by a 5 1\npoint d by a 9 9\ngoes a b")
        self.assertEqual(behind(STRAIGHT, bay, (20, 2), ((1, 1), (2, 9)))[0], ((1, 2), (1, 9)))
        self.assertEqual(behind(STRAIGHT, bay, (20, 3), ((1, 1), (19, 9)))[0], ((1, 1), (19, 9)))
        self.assertEqual(behind(STRAIGHT, SHORT, (), ((1, 1),))[0], ((0, 0),))

    def test_walls(self):
        text = "hand 1\nfrom a 0 0\nfrom b 20 0\n{}point c by a 9 1\n{}point d by a 5 1\ngoes a b"
        book = Book("among eldest\nwall 1")
        for first, second, drawn in (("wall a b\n", "", ((9, 0), (5, 0))), ("", "wall a b\n", ((9, 1), (5, 0))),
                                     ("", "wall a c\n", ((9, 1), (5, 1))),
                                     ("", "wall c b\nwall b a\n", ((9, 1), (5, 0)))):
            self.assertEqual(behind(book, Bay(text.format(first, second)), (20, 0), ((9, 1), (5, 1)))[0], drawn)
        # Where b stands now, the wall is no level one.
        self.assertEqual(behind(book, Bay(text.format("wall a b\n", "")), (20, 1), ((9, 1), (5, 1)))[0],
                         ((9, 1), (5, 1)))

    def test_errors_in_sequence(self):
        for value in odd_values() + [(0, 10, 0), (0,), [0, 10], (0, True), (False, 10), ("0", "10"), ((0, 10),), None]:
            if value != ():
                self.refuses(BadStanding, value, behind, NEAR, SHORT, value, ((9, 0),))
                self.refuses(BadStanding, value, behind, NEAR, SHORT, value, value)
            self.refuses(BadStanding, value, behind, NEAR, BAY, value, ((10, 0), (10, 10)))
            self.refuses(BadStanding, value, behind, NEAR, BAY, value, value)
            self.refuses(BadHands, value, behind, NEAR, BAY, (0, 10), value)
            if value != ((0, 10),):
                self.refuses(BadHands, value, behind, NEAR, SHORT, (), value)
            self.refuses(NoGrid, GRID, behind, GRID, BAY, value, value)
        self.refuses(BadStanding, (0, 10), behind, NEAR, SHORT, (0, 10), ((9, 0),))
        self.refuses(BadStanding, (), behind, NEAR, BAY, (), ((10, 0), (10, 10)))
        good = ((10, 0), (10, 10))
        for value in (good[:1], good + good[:1], list(good), ((10, 0), [10, 10]), ((10, 0), (10, True)),
                      ((10, 0), (10,)),
                      nested(good, 50000, lambda value: (value, value))):
            self.refuses(BadHands, value, behind, NEAR, BAY, (0, 10), value)
        for _, value in with_each_part_changed(good):
            self.refuses(BadHands, value, behind, NEAR, BAY, (0, 10), value)
        self.refuses(BadHands, good, behind, NEAR, SHORT, (), good)

    def test_by_other_words(self):
        dealt = random.Random(501)
        for _ in range(300):
            bay, book = deal_bay(dealt, 2), deal_fence_book(dealt)
            near = lambda: (dealt.randint(-7, 7), dealt.randint(-7, 7))
            standing = near() if len(bay.starts) == 2 else ()
            hands = tuple(near() for _ in bay.points)
            places, following, _ = draw_bay(book, bay, standing, hands)
            self.assertEqual(behind(book, bay, standing, hands),
                             (tuple(places[name] for name in bay.points), following))


class Fences(RefusingTestCase):

    def check(self, book, bay, wish, kind=None):
        found = fence(book, bay, wish)
        self.assertEqual([type(found), len(found), type(found[1])], [tuple, 2, tuple])
        self.assertIn(found[0], ("sure", "fails"))
        if kind is not None:
            self.assertEqual(found[0], kind)
        self.assertIs(shows_fence(book, bay, wish, found), True)
        self.assertEqual(fence(book, bay, wish), found)
        return found[1]

    def test_the_examples(self):
        self.assertEqual(
            [fence(one, BAY, wish)[0] for one, wish in ((NEAR, ("upright", "c", "d")), (CORNER, ("level", "a", "c")))],
            ["sure", "fails"],
        )
        self.assertEqual(self.check(NEAR, BAY, ("upright", "c", "d"), "sure"), ((0, 10),))
        self.assertEqual(len(self.check(CORNER, BAY, ("level", "a", "c"), "fails")), 1)
        self.assertEqual(fence(wish=("upright", "c", "d"), bay=BAY, book=NEAR)[0], "sure")
        self.assertIs(shows_fence(value=("sure", ((0, 10),)), wish=("upright", "c", "d"), bay=BAY, book=NEAR), True)

    def test_one_line_from(self):
        self.assertEqual(self.check(NEAR, SHORT, ("level", "a", "b"), "sure"), ((),))
        self.assertEqual(self.check(NEAR, SHORT, ("x", "b", "a", 8, 10), "sure"), ((),))
        rows = self.check(CORNER, SHORT, ("level", "a", "b"), "fails")
        self.assertEqual(len(rows), 1)
        self.assertIs(shows_fence(NEAR, SHORT, ("level", "a", "b"), ("sure", ())), False)
        self.assertIs(shows_fence(NEAR, SHORT, ("level", "a", "b"), ("sure", ((), ()))), False)
        self.assertIs(shows_fence(NEAR, SHORT, ("level", "a", "b"), ("sure", ((0, 0),))), False)
        self.assertIs(shows_fence(NEAR, SHORT, ("level", "a", "b"), ("sure", [()])), False)
        self.assertIs(shows_fence(NEAR, SHORT, ("level", "a", "b"), ("sure", ([],))), False)

    def test_a_fence_that_drifts(self):
        # The first bay stands as it was told: so it takes one bay more until b is too high.
        for most in (10, 11, 12, 40, 120):
            rows = self.check(STRAIGHT, DRIFT, ("y", "b", "a", -99999, most), "fails")
            self.assertEqual(len(rows), most - 8)
            for changed in (rows[:-1], rows + rows[-1:], rows[1:]):
                self.assertIs(shows_fence(STRAIGHT, DRIFT, ("y", "b", "a", -99999, most), ("fails", changed)), False)
            rows = self.check(STRAIGHT, DRIFT, ("y", "d", "c", -99999, most), "fails")
            self.assertEqual(len(rows), most - 9)
        self.assertEqual(len(self.check(STRAIGHT, DRIFT, ("y", "b", "a", -99999, 9), "fails")), 1)
        # Downward it comes to 0, and stays there.
        self.check(STRAIGHT, DRIFT, ("y", "b", "a", 1, 99999), "fails")
        self.assertEqual(len(fence(STRAIGHT, DRIFT, ("y", "b", "a", 3, 99999))[1]), 9)
        self.refuses(TooMany, 300, fence, STRAIGHT, DRIFT, ("y", "b", "a", 0, 99999))

    def test_just_300_standings_and_just_above(self):
        def wish(most):
            return ("y", "b", "a", -99999, most)

        self.assertEqual(fence_by_list(STRAIGHT, DRIFT, wish(298)), ("fails", 290))
        self.assertEqual(fence_by_list(STRAIGHT, DRIFT, wish(300)), ("too many",))
        told = [fence_by_list(STRAIGHT, DRIFT, wish(most))[0] for most in (297, 298, 299, 300)]
        last = 297 + told.index("too many") - 1
        # Rows of fewer bays than the told ones come to just 300 standings; by one bay more it is one more.
        self.assertEqual(len(self.check(STRAIGHT, DRIFT, wish(last), "fails")), last - 8)
        for most in (last + 1, last + 2, 99999):
            self.refuses(TooMany, 300, fence, STRAIGHT, DRIFT, wish(most))
            for value in (None, ("sure", ((0, 10),)), ("fails", ())):
                self.refuses(TooMany, 300, shows_fence, STRAIGHT, DRIFT, wish(most), value)
        standings = {(0, 10)}
        new = set(standings)
        for _ in range(last - 9):
            new = {row[2] for standing in new for row in all_hands(STRAIGHT, DRIFT, standing)} - standings
            standings |= new
        self.assertEqual(len(standings), 300)

    def test_standings_to_which_only_as_many_bays_come_do_not_count(self):
        # By one bay rows come to 81 standings, by two to 289, by three to 625.
        bay = Bay("hand 2\nfrom a 0 0\nfrom b 0 50\npoint c by a 50 0\npoint d by b 50 0\ngoes c d")
        book = Book("among eldest\ncorner 0")
        self.assertEqual(len(self.check(book, bay, ("level", "a", "c"), "fails")), 1)
        self.assertEqual(len(self.check(book, bay, ("y", "b", "a", 50, 99999), "fails")), 2)
        self.assertEqual(len(self.check(book, bay, ("y", "b", "a", 46, 99999), "fails")), 3)
        self.refuses(TooMany, 300, fence, book, bay, ("y", "b", "a", 42, 99999))

    def test_standings_that_no_row_comes_to(self):
        wish = ("upright", "c", "d")
        for more in ((), ((0, 11),), ((0, 9), (0, 12)), ((-5, 3), (4, -7)), tuple((0, y) for y in range(-50, 0))):
            value = ("sure", tuple(sorted(((0, 10),) + more)))
            right = is_right_standings(NEAR, BAY, wish, value[1])
            self.assertIs(shows_fence(NEAR, BAY, wish, value), right)
        far = tuple(sorted((0, y) for y in range(3, 400)))
        self.assertIs(shows_fence(NEAR, BAY, wish, ("sure", far)), True)
        self.assertIs(shows_fence(NEAR, BAY, wish, ("sure", far[::-1])), False)
        self.assertIs(shows_fence(NEAR, BAY, wish, ("sure", far[:7] + far[8:])), False)
        self.assertIs(shows_fence(NEAR, BAY, wish, ("sure", far[:9] + far[8:])), False)

    def test_each_of_the_standings_has_to_keep_the_wish(self):
        # Behind each of these standings comes (0, 10); but there b is not above a.
        for wish, right in ((("upright", "a", "b"), False), (("upright", "c", "d"), True)):
            self.assertIs(shows_fence(NEAR, BAY, wish, ("sure", ((0, 10),))), True)
            self.assertIs(shows_fence(NEAR, BAY, wish, ("sure", ((0, 10), (5, 10)))), right)
            self.assertIs(is_right_standings(NEAR, BAY, wish, ((0, 10), (5, 10))), right)
            self.assertIs(shows_fence(NEAR, BAY, wish, ("sure", ((-3, 10), (0, 10)))), right)

    def test_errors_in_sequence(self):
        for value in odd_values() + [("level", "a", "e"), ("level", "a", "a"), ("x", "a", "b", 0, True),
                                     ["level", "a", "c"],
                                     ("on", "a", "b"), ("level", "a!", "b")]:
            self.refuses(BadWish, value, fence, STRAIGHT, DRIFT, value)
            self.refuses(BadWish, value, shows_fence, STRAIGHT, DRIFT, value, value)
            self.refuses(NoGrid, GRID, fence, GRID, BAY, value)
            self.refuses(NoGrid, GRID, shows_fence, GRID, BAY, value, value)
        self.refuses(NoGrid, GRID, fence, GRID, BAY, ("level", "a", "c"))
        for book in (NEAR, CORNER):
            for names in (("a", "b"), ("c", "d"), ("d", "a")):
                self.check(book, BAY, ("level",) + names)

    def test_by_all_steady_hands(self):
        dealt = random.Random(502)
        found = {"sure": 0, "fails": 0, "too many": 0, "late": 0, "many": 0}
        for _ in range(220):
            bay, book = deal_bay(dealt), deal_fence_book(dealt)
            wish = deal_bay_wish(dealt, bay)
            told = fence_by_list(book, bay, wish)
            found[told[0]] += 1
            with self.subTest(bay=bay.text, book=book.text, wish=wish):
                if told[0] == "too many":
                    self.refuses(TooMany, 300, fence, book, bay, wish)
                    self.refuses(TooMany, 300, shows_fence, book, bay, wish, told)
                    continue
                value = fence(book, bay, wish)
                self.assertIs(is_right_fence(book, bay, wish, told, value), True)
                self.check(book, bay, wish, told[0])
                found["late"] += told[0] == "fails" and told[1] > 1
                found["many"] += told[0] == "sure" and len(told[1]) > 1
                if told[0] == "sure":
                    self.assertIs(shows_fence(book, bay, wish, ("sure", tuple(sorted(told[1])))), True)
        self.assertGreater(min(found.values()), 2)

    def test_one_part_otherwise(self):
        dealt = random.Random(503)
        found = {True: 0, False: 0}
        for _ in range(60):
            bay, book = deal_bay(dealt), deal_fence_book(dealt)
            wish = deal_bay_wish(dealt, bay)
            told = fence_by_list(book, bay, wish)
            if told[0] == "too many" or told[0] == "sure" and len(told[1]) > 40:
                continue
            changes = list(with_each_part_moved(fence(book, bay, wish)))
            for changed in dealt.sample(changes, min(len(changes), 40)):
                right = is_right_fence(book, bay, wish, told, changed)
                found[right] += 1
                with self.subTest(bay=bay.text, book=book.text, wish=wish, changed=changed):
                    self.assertIs(shows_fence(book, bay, wish, changed), right)
        self.assertGreater(min(found.values()), 40)

    def test_wrong_forms(self):
        for book, wish in ((NEAR, ("upright", "c", "d")), (CORNER, ("level", "a", "c")),
                           (CORNER, ("upright", "a", "b"))):
            value = fence(book, BAY, wish)
            for changed in odd_values():
                self.assertIs(shows_fence(book, BAY, wish, changed), False)
                self.assertIs(shows_fence(book, BAY, wish, (value[0], changed)), False)
                self.assertIs(shows_fence(book, BAY, wish, (changed, value[1])), False)
            for _, changed in with_each_part_changed(value):
                self.assertIs(shows_fence(book, BAY, wish, changed), False)
            self.assertIs(shows_fence(book, BAY, wish, value + ((),)), False)
            self.assertIs(shows_fence(book, BAY, wish, ({"sure": "fails", "fails": "sure"}[value[0]], value[1])), False)
        hands = ((10, 1), (10, 10))
        self.assertIs(shows_fence(CORNER, BAY, ("level", "a", "c"), ("fails", (hands,))), True)
        for rows in ((), (hands, hands), hands, (hands[:1],), (hands[::-1],), (((10, True), (10, 10)),),
                     (((10, 0), (10, 10)),), (((10, 2), (10, 10)),), (((10, 1), (12, 10)),), [hands], (list(hands),)):
            self.assertIs(shows_fence(CORNER, BAY, ("level", "a", "c"), ("fails", rows)), False)
        for standings in ((), ((0, 10), (0, 10)), ((0, 11),), (0, 10), ((False, 10),), ((0, 10, 0),), ([0, 10],),
                          ((),)):
            self.assertIs(shows_fence(NEAR, BAY, ("upright", "c", "d"), ("sure", standings)), False)

    def test_deep_values(self):
        for book, wish in ((NEAR, ("upright", "c", "d")), (CORNER, ("level", "a", "c"))):
            value = fence(book, BAY, wish)
            for wrap in (lambda value: (value,), lambda value: [value], lambda value: ("sure", value)):
                deep = nested(value, 50000, wrap)
                for changed in (deep, (deep, value[1]), (value[0], deep), (value[0], (deep,)),
                                (value[0], ((deep, deep),))):
                    self.assertIs(shows_fence(book, BAY, wish, changed), False)

    def test_fewer_bays_never_fail(self):
        wish = ("y", "b", "a", -99999, 14)
        rows = fence(STRAIGHT, DRIFT, wish)[1]
        standing = (0, 10)
        for hands in rows[:-1]:
            places, standing, steady = draw_bay(STRAIGHT, DRIFT, standing, hands)
            self.assertTrue(steady)
            self.assertLessEqual(places["b"][1], 14)
        places, _, steady = draw_bay(STRAIGHT, DRIFT, standing, rows[-1])
        self.assertTrue(steady)
        self.assertGreater(places["b"][1], 14)
