"""Section 12: which hands can have made a drawing, and which answers of could are right."""

import itertools
import random

from tests import lists
from tests.dealt import deal_book, deal_plan
from tests.odd import RefusingTestCase, nested, odd_values, with_each_part_changed, with_each_part_moved
from tests.test_judging import ABOVE_400, BOOK, ROOM
from wobblesnap.books import Book
from wobblesnap.drawing import drawn, is_steady
from wobblesnap.errors import BadDrawing
from wobblesnap.plans import Plan
from wobblesnap.telling import could, shows_could

TWO = Plan("hand 3\npoint a at 0 0\npoint b by a 60 0")
LEVEL = Book("among eldest\nlevel 3")


def deal(seed, many, sizes=(1, 2, 2, 3)):
    dealt = random.Random(seed)
    for _ in range(many):
        points = dealt.choice(sizes)
        hand = dealt.choice((0, 1)) if points == 3 else dealt.randint(0, 3)
        book, plan = deal_book(dealt), deal_plan(dealt, many=points, hand=hand, walls=3)
        rows = lists.rows_of(book, plan)
        drawings = [dealt.choice(rows)[1] for _ in range(3)]
        drawings += [
            tuple((x + dealt.randint(-1, 1), y + dealt.randint(-1, 1)) for x, y in drawing) for drawing in drawings
        ]
        drawings += [drawing[:-1] + ((drawing[-1][0] + 1, drawing[-1][1]),) for drawing in drawings[:3]]
        drawings.append(tuple((dealt.randint(-9, 9), dealt.randint(-9, 9)) for _ in plan.points))
        yield dealt, book, plan, rows, drawings


class Could(RefusingTestCase):

    def check(self, book, plan, drawing):
        found = could(book, plan, drawing)
        self.assertIs(type(found), tuple)
        self.assertIs(shows_could(book, plan, drawing, found), True)
        self.assertEqual(could(book, plan, drawing), found)
        if found[0] == "can":
            self.assertEqual(len(found), 3)
            self.assertEqual(drawn(book, plan, found[1]), drawing)
            self.assertIs(is_steady(book, plan, found[1]), True)
        else:
            self.assertEqual([len(found), found[0], type(found[1])], [2, "never", int])
        return found

    def ranges(self, rules, plan, drawing, among="eldest"):
        """The ranges, or how many points cannot be drawn so."""
        return self.check(Book(f"among {among}\n{rules}"), Plan(plan), drawing)[-1]

    def test_the_examples(self):
        self.assertEqual([could(BOOK, TWO, ((0, 0), (60, 0)))[2], could(BOOK, TWO, ((0, 0), (60, 2)))],
                         [(((0, 0), (0, 0)), ((60, 60), (-3, 3))), ("never", 2)])
        self.check(BOOK, TWO, ((0, 0), (60, 0)))

    def test_arguments_by_name(self):
        drawing = ((0, 0), (60, 0))
        found = could(drawing=drawing, plan=TWO, book=BOOK)
        self.assertEqual(found[0], "can")
        self.assertIs(shows_could(value=found, drawing=drawing, plan=TWO, book=BOOK), True)

    def test_the_first_point_and_the_last_one(self):
        place = (2, -1)
        room = (place, (61, -1), (61, 36), (2, 36))
        self.assertEqual(self.check(BOOK, ROOM, room)[0], "can")
        self.assertEqual(self.check(BOOK, ROOM, ((4, 0),) + room[1:]), ("never", 1))
        self.assertEqual(self.check(BOOK, ROOM, (place, (61, 0)) + room[2:]), ("never", 2))
        self.assertEqual(self.check(BOOK, ROOM, room[:2] + ((62, 36), (2, 36))), ("never", 3))
        self.assertEqual(self.check(BOOK, ROOM, room[:3] + ((2, 37),)), ("never", 4))
        # Several that cannot be drawn so: the first one counts.
        self.assertEqual(self.check(BOOK, ROOM, ((4, 0), (61, 0), (62, 36), (2, 37))), ("never", 1))
        self.assertEqual(self.check(BOOK, ROOM, room[:1] + ((61, 0), (62, 36), (2, 37))), ("never", 2))

    def test_heights_that_a_rule_takes_or_leaves_free(self):
        plan = "hand 5\npoint a at 0 0 within 0\npoint b at 60 0"
        for y, told in ((0, (-3, 3)), (1, None), (3, None), (4, (4, 4)), (5, (5, 5)), (-3, None), (-4, (-4, -4)),
                        (-5, (-5, -5)), (6, None)):
            found = self.ranges("level 3", plan, ((0, 0), (60, y)))
            self.assertEqual(found, 2 if told is None else (((0, 0), (0, 0)), ((60, 60), told)))
        # The elder point is drawn between those that could be: so it is known which hands came to which one.
        plan = "hand 9\npoint a at 0 0 within 0\npoint b at 90 4 within 0\npoint c at 40 2"
        self.assertEqual(self.ranges("level 3", plan, ((0, 0), (90, 4), (40, 4)))[2], ((40, 40), (4, 7)))
        self.assertEqual(self.ranges("level 3", plan, ((0, 0), (90, 4), (40, 0)))[2], ((40, 40), (-3, 3)))
        self.assertEqual(self.ranges("level 3", plan, ((0, 0), (90, 4), (40, 4)), "latest")[2], ((40, 40), (1, 7)))
        self.assertEqual(self.ranges("level 3", plan, ((0, 0), (90, 4), (40, 0)), "latest")[2], ((40, 40), (-3, 0)))

    def test_corners_and_walls(self):
        plan = "hand 6\npoint a at 0 0 within 0\npoint b at 40 0 within 0\nwall a b\npoint c at 3 1"
        start = ((0, 0), (40, 0))
        self.assertEqual(self.ranges("corner 4", plan, start + ((0, 0),))[2], ((-3, 4), (-4, 4)))
        self.assertEqual(self.ranges("corner 4", plan, start + ((0, 5),))[2], ((0, 0), (5, 5)))
        self.assertEqual(self.ranges("corner 4", plan, start + ((4, 4),)), 3)
        self.assertEqual(self.ranges("wall 2", plan, start + ((5, 0),))[2], ((5, 5), (-2, 2)))
        self.assertEqual(self.ranges("wall 2", plan, start + ((5, 2),)), 3)
        self.assertEqual(self.ranges("wall 2", plan, start + ((0, 2),))[2], ((0, 0), (2, 2)))
        self.assertEqual(self.ranges("wall 2\nlevel 1", plan, start + ((0, 0),))[2], ((-1, 1), (-2, 2)))
        # There are two ways to this place: by the level rule, and where the hand was.
        self.assertEqual(self.ranges("straight 0\ncorner 2", plan, start + ((0, 0),))[2], ((-2, 2), (-2, 2)))

    def test_at_the_ends_of_walls(self):
        # Just one place on the wall is so near to e that e's x is taken, or none is.
        plan = "hand 6\npoint a at {0} 0 within 0\npoint b at {1} 0 within 0\nwall {2}\npoint e at {3} 30 within 0\n"
        plan += "point c at {3} 0"
        for ends, x, reach, told in (
            ((0, 40), -1, 2, ((-3, 1), (-4, 4))), ((0, 40), -2, 2, ((-4, 0), (0, 0))),
            ((0, 40), -2, 3, ((-5, 1), (-4, 4))), ((0, 40), -3, 3, ((-6, 0), (0, 0))),
            ((40, 0), 41, 2, ((39, 43), (-4, 4))), ((40, 0), 42, 2, ((40, 44), (0, 0))),
            ((40, 0), 42, 3, ((39, 45), (-4, 4))), ((40, 0), 43, 3, ((40, 46), (0, 0))),
        ):
            for wall in ("a b", "b a"):
                drawing = ((ends[0], 0), (ends[1], 0), (x, 30), (x, 0))
                found = self.ranges(f"wall 4\nstraight {reach}", plan.format(*ends, wall, x), drawing)
                self.assertEqual(found[3], told)

    def test_grids(self):
        plan = "hand 30\npoint a at 0 0"
        self.assertEqual(self.ranges("grid 10", plan, ((20, -20),)), (((15, 24), (-25, -16)),))
        self.assertEqual(self.ranges("grid 7", plan, ((0, 7),)), (((-3, 3), (4, 10)),))
        self.assertEqual(self.ranges("grid 2", plan, ((30, -30),)), (((29, 30), (-30, -30)),))
        self.assertEqual(self.ranges("grid 99", plan, ((0, 0),)), (((-30, 30), (-30, 30)),))
        for place in ((5, 0), (0, 5), (40, 0), (0, -40), (10, 1)):
            self.assertEqual(self.ranges("grid 10", plan, (place,)), 1)
        plan = "hand 9\npoint a at 4 4\npoint b by a 30 0"
        self.assertEqual(self.ranges("level 3\ngrid 10", plan, ((0, 10), (30, 10)))[1], ((25, 34), (5, 14)))
        self.assertEqual(self.ranges("level 9\ngrid 10", plan, ((0, 10), (30, 10)))[1], ((25, 34), (1, 19)))

    def test_bounds_0_and_99(self):
        plan = "hand 99\npoint a at 0 0\npoint b by a 0 0\npoint c by b 0 0"
        self.assertEqual(self.ranges("corner 99", plan, ((99, -99),) * 3),
                         (((99, 99), (-99, -99)), ((0, 198), (-198, 0)), ((0, 198), (-198, 0))))
        self.assertEqual(self.ranges("corner 98", plan, ((0, 0), (99, 99), (99, 99)))[1:],
                         (((99, 99), (99, 99)), ((1, 197), (1, 197))))
        self.assertEqual(self.ranges("corner 99", plan, ((0, 0), (99, 0), (0, 0))), 2)
        plan = "hand 0\npoint a at -999 999\npoint b cross a a\npoint c by b -999 999"
        self.assertEqual(self.ranges("level 9", plan, ((-999, 999), (-999, 999), (-1998, 1998)))[2],
                         ((-1998, -1998), (1998, 1998)))
        self.assertEqual(self.ranges("level 9", plan, ((-999, 999), (-999, 999), (-1998, 1999))), 3)

    def test_aims_are_beside_what_is_drawn(self):
        # b is aimed at beside the drawn a, wherever the hand of a was.
        plan = "hand 4\npoint a at 1 1\npoint b by a 30 0"
        self.assertEqual(self.ranges("grid 10", plan, ((0, 0), (30, 0))), (((-3, 4), (-3, 4)), ((26, 34), (-4, 4))))
        plan = "hand 4\npoint a at 1 1\npoint b by a 30 0\npoint c cross b a"
        self.assertEqual(self.ranges("grid 10", plan, ((0, 0), (30, 0), (30, 0)))[2], ((26, 34), (-4, 4)))

    def test_there_may_be_more_than_400_cases(self):
        for book, plan in ABOVE_400:
            hands = ((0, 0),) * len(plan)
            drawing = drawn(book, plan, hands)
            self.check(book, plan, drawing)

    def test_bad_drawings(self):
        good = ((0, 0), (60, 0))
        for value in odd_values() + [
            good[:1], good + good[:1], list(good), ((0, 0), [60, 0]), ((0, 0), (60, 0, 0)), ((0, 0), (60,)),
            ((0, 0), (60, True)), ((False, 0), (60, 0)), ((0, 0), ("60", 0)), ((0, 0), None), (good, good),
            {0: (0, 0), 1: (60, 0)}, "ab", nested(good, 50000, lambda value: (value, value)),
        ]:
            self.refuses(BadDrawing, value, could, BOOK, TWO, value)
            self.refuses(BadDrawing, value, shows_could, BOOK, TWO, value, value)
            self.refuses(BadDrawing, value, shows_could, BOOK, TWO, value, ("never", 1))
        for _, value in with_each_part_changed(good):
            self.refuses(BadDrawing, value, could, BOOK, TWO, value)

    def test_by_all_steady_hands(self):
        found = {"can": 0, "never": 0}
        lasts = {}
        for dealt, book, plan, rows, drawings in deal(401, 120):
            for drawing in drawings:
                value = could(book, plan, drawing)
                found[value[0]] += 1
                if value[0] == "never":
                    lasts[value[1]] = lasts.get(value[1], 0) + 1
                with self.subTest(book=book.text, plan=plan.text, drawing=drawing):
                    self.assertIs(lists.is_could(rows, drawing, value), True)
                    self.assertIs(shows_could(book, plan, drawing, value), True)
                    if value[0] == "can":
                        hands = dealt.choice([row[0] for row in rows if row[1] == drawing])
                        self.assertIs(shows_could(book, plan, drawing, ("can", hands, value[2])), True)
        self.assertGreater(min(found.values()), 100)
        self.assertEqual(sorted(lasts), [1, 2, 3])

    def test_one_part_otherwise(self):
        right = 0
        for _, book, plan, rows, drawings in deal(402, 25, (1, 2, 2)):
            for drawing in drawings[:4]:
                value = could(book, plan, drawing)
                for changed in with_each_part_moved(value):
                    expected = lists.is_could(rows, drawing, changed)
                    right += expected
                    with self.subTest(book=book.text, plan=plan.text, drawing=drawing, changed=changed):
                        self.assertIs(shows_could(book, plan, drawing, changed), expected)
        self.assertGreater(right, 20)

    def test_all_hands_around(self):
        book, plan = Book("among eldest\nlevel 1"), Plan("hand 2\npoint a at 0 0\npoint b by a 2 0")
        rows = lists.rows_of(book, plan)
        for drawing in (((0, 0), (2, 0)), ((0, 0), (0, 0)), ((1, -1), (3, -1))):
            ranges = could(book, plan, drawing)[2]
            for x, y in itertools.product(range(-2, 6), range(-4, 5)):
                value = ("can", (drawing[0], (x, y)), ranges)
                self.assertIs(shows_could(book, plan, drawing, value), lists.is_could(rows, drawing, value))

    def test_wrong_forms(self):
        for drawing in (((0, 0), (60, 0)), ((0, 0), (60, 2)), ((4, 0), (60, 0)), ((1, 1), (61, 1))):
            value = could(BOOK, TWO, drawing)
            for other in odd_values():
                self.assertIs(shows_could(BOOK, TWO, drawing, other), False)
            for _, changed in with_each_part_changed(value):
                self.assertIs(shows_could(BOOK, TWO, drawing, changed), False)
        drawing = ((0, 0), (60, 0))
        _, hands, ranges = could(BOOK, TWO, drawing)
        for value in (("can", hands), ("can", ranges, hands), ("never", 2), ("never", 3), ("never", 0), ("can",),
                      ("can", hands, ranges[::-1]), ("can", hands[::-1], ranges), ("can", hands, ranges + ranges),
                      ("can", drawing, ranges[:1]), ("can", hands, tuple(row[::-1] for row in ranges))):
            self.assertIs(shows_could(BOOK, TWO, drawing, value), False)
        drawing = ((4, 0), (60, 0))
        for value in (("never", True), ("never", 2), ("never", 0), ("never", "1"), ("never", 1, ()), ("never",),
                      ["never", 1], ("Never", 1), ("can", hands, ranges)):
            self.assertIs(shows_could(BOOK, TWO, drawing, value), False)
        self.assertIs(shows_could(BOOK, TWO, drawing, ("never", 1)), True)
        # True for 1, and False for 0, in what is right otherwise.
        plan, drawing = Plan("hand 0\npoint a at 0 1"), ((0, 1),)
        told = ("can", ((0, 1),), (((0, 0), (1, 1)),))
        self.assertIs(shows_could(LEVEL, plan, drawing, told), True)
        for value in (("can", ((False, 1),), told[2]), ("can", ((0, True),), told[2]),
                      ("can", told[1], (((False, 0), (1, 1)),)), ("can", told[1], (((0, 0), (1, True)),))):
            self.assertIs(shows_could(LEVEL, plan, drawing, value), False)

    def test_deep_values(self):
        for drawing in (((0, 0), (60, 0)), ((0, 0), (60, 2))):
            value = could(BOOK, TWO, drawing)
            for wrap in (lambda value: (value,), lambda value: [value], lambda value: ("can", value, value)):
                deep = nested(value, 50000, wrap)
                self.assertIs(shows_could(BOOK, TWO, drawing, deep), False)
                for at in range(len(value)):
                    changed = value[:at] + (deep,) + value[at + 1:]
                    self.assertIs(shows_could(BOOK, TWO, drawing, changed), False)
                    self.assertIs(shows_could(BOOK, TWO, drawing, value[:at] + ((deep, deep),) + value[at + 1:]), False)
