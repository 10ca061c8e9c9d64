"""Section 9: cases and sure, and the guarantees of section 3 as far as they speak of them."""

import random

from tests.dealt import deal_book, deal_plan, deal_wish
from tests.odd import RefusingTestCase, odd_values
from tests.reference import all_steady, answers_by, is_kept, is_right
from wobblesnap.books import Book
from wobblesnap.drawing import drawn, is_steady
from wobblesnap.errors import BadWish, TooMany
from wobblesnap.judging import cases, shows_sure, sure
from wobblesnap.plans import Plan
from wobblesnap.wishes import kept

BOOK = Book("among eldest\ncorner 5\nlevel 3")
ROOM = Plan("hand 3\npoint a at 0 0\npoint b by a 60 0\npoint c by b 0 40\npoint d cross a c")
# 20 multiples in x and in y.
JUST_400 = Book("among eldest\ngrid 2"), Plan("hand 19\npoint a at 0 0\npoint b at 500 500 within 0")
ABOVE_400 = (
    (Book("among eldest\ncorner 0\ngrid 4"), Plan("hand 0\npoint a at 0 0\npoint b at 6 27 within 36")),
    (Book("among eldest\ncorner 9\ngrid 4"), Plan("hand 0\npoint a at 0 0\npoint b at 1 -3 within 39")),
    (JUST_400[0], Plan("hand 20\npoint a at 0 0\npoint b at 500 500 within 0")),
    (JUST_400[0], Plan("hand 99\npoint a at 0 0\npoint b by a 500 500")),
    (BOOK, Plan("hand 40\npoint a at 0 0\npoint b by a 60 0\npoint c by b 0 40\npoint d by a 20 20\npoint e by b 1 1")),
)


def turned(plan):
    """The plan with x and y in each other's place in all lines."""
    lines = []
    for line in plan.text.split("\n"):
        words = line.split(" ")
        if words[0] == "point":
            first = {"at": 3, "by": 4, "cross": 3}[words[2]]
            words[first], words[first + 1] = words[first + 1], words[first]
        lines.append(" ".join(words))
    return Plan("\n".join(lines))


def turned_wish(wish):
    """The wish with x and y in each other's place."""
    kinds = {"level": "upright", "upright": "level", "x": "y", "y": "x"}
    return (kinds.get(wish[0], wish[0]),) + wish[1:]


def moved(plan, x, y):
    """The plan with so much put to the places of all lines at."""
    lines = []
    for line in plan.text.split("\n"):
        words = line.split(" ")
        if words[2:3] == ["at"]:
            words[3:5] = [str(int(words[3]) + x), str(int(words[4]) + y)]
        lines.append(" ".join(words))
    return Plan("\n".join(lines))


class Cases(RefusingTestCase):

    def many(self, rules, plan):
        found = cases(Book("among eldest\n" + rules), Plan(plan))
        self.assertIs(type(found), int)
        return found

    def test_the_example_of_section_10(self):
        self.assertEqual(cases(BOOK, ROOM), 1)

    def test_arguments_by_name(self):
        self.assertEqual(cases(plan=ROOM, book=BOOK), 1)

    def test_one_point_is_asked_nothing(self):
        for rules in ("corner 9", "wall 9", "level 9", "straight 99", "corner 1\nwall 2\nlevel 3\nstraight 4"):
            for hand in (0, 1, 99):
                self.assertEqual(self.many(rules, f"hand {hand}\npoint a at 0 0"), 1)

    def test_multiples_of_a_grid(self):
        for hand, many in ((0, 1), (4, 1), (5, 4), (6, 9), (14, 9), (15, 16), (94, 361), (95, 400)):
            self.assertEqual(self.many("grid 10", f"hand {hand}\npoint a at 0 0"), many)

    def test_level_at_the_edge(self):
        # The height of b is within 3 of that of a, or more above it, or more below it.
        self.assertEqual(cases(BOOK, Plan("hand 3\npoint a at 0 0\npoint b by a 60 0")), 1)
        self.assertEqual(cases(BOOK, Plan("hand 4\npoint a at 0 0\npoint b by a 60 0")), 3)

    def test_comparisons_are_told_apart_even_if_all_is_drawn_alike(self):
        # x more, x less, y more, y less, or at the corner.
        self.assertEqual(self.many("corner 0", "hand 1\npoint a at 0 0\npoint b by a 0 0"), 5)
        # c is level with a, or is not, because the ends of the wall differ this way or that way.
        plan = "hand 0\npoint a at 0 0\npoint b at 40 0 within 1\nwall a b\npoint c at 20 9"
        self.assertEqual(self.many("wall 2", plan), 3)

    def test_wishes_are_not_asked(self):
        self.assertEqual(self.many("level 0", "hand 9\npoint a at 0 0\npoint b at 500 500 within 0"), 1)

    def test_walls_that_stand_twice(self):
        plan = "hand 1\npoint a at 0 0\npoint b by a 40 0 within 0\n{}point c by a 20 9"
        for book, many in (("wall 9", 2), ("wall 8", 2), ("wall 7", 1), ("wall 20", 1)):
            self.assertEqual(self.many(book, plan.format("")), 1)
            self.assertEqual(self.many(book, plan.format("wall a b\n")), many)

    def test_just_400_and_just_above(self):
        self.assertEqual(cases(*JUST_400), 400)
        self.assertEqual(self.many("corner 1\ngrid 2", "hand 0\npoint a at 0 0\npoint b at 26 7 within 19"), 400)
        self.assertEqual(self.many("level 6\ngrid 2", "hand 0\npoint a at 0 0\npoint b at -8 22 within 23"), 399)
        for book, plan in ABOVE_400:
            self.refuses(TooMany, 400, cases, book, plan)
            self.refuses(TooMany, 400, cases, plan=plan, book=book)

    def test_how_many_are_just_above(self):
        for book, plan in (JUST_400,) + ABOVE_400[:2]:
            found = {answers_by(book, plan, hands, places) for hands, places in all_steady(book, plan)}
            self.assertEqual(len(found), 400 if plan is JUST_400[1] else 401)

    def test_by_all_steady_hands(self):
        dealt = random.Random(91)
        found = []
        for _ in range(150):
            many = dealt.choice((1, 2, 2, 3))
            book = deal_book(dealt)
            plan = deal_plan(dealt, many=many, hand=dealt.choice((0, 1)) if many == 3 else dealt.randint(0, 3), walls=3)
            found.append(len({answers_by(book, plan, *told) for told in all_steady(book, plan)}))
            with self.subTest(book=book.text, plan=plan.text):
                self.assertEqual(cases(book, plan), found[-1])
        self.assertGreater(len([many for many in found if many > 1]), 60)
        self.assertGreater(max(found), 40)


class Judged(RefusingTestCase):
    """What each right answer of sure is like."""

    def check_fails(self, book, plan, wish):
        result = sure(book, plan, wish)
        self.assertEqual((type(result), len(result), result[0]), (tuple, 2, "fails"))
        self.assertIs(is_steady(book, plan, result[1]), True)
        self.assertIs(kept(book, plan, wish, result[1]), False)
        self.assertIs(shows_sure(book, plan, wish, result), True)
        self.assertEqual(sure(book, plan, wish), result)
        return result[1]

    def check_sure(self, book, plan, wish, by_reference=True):
        result = sure(book, plan, wish)
        self.assertEqual((type(result), len(result), result[0]), (tuple, 2, "sure"))
        self.assertIs(shows_sure(book, plan, wish, result), True)
        if by_reference:
            self.assertIs(is_right(book, plan, wish, result[1]), True)
        self.assertEqual(sure(book, plan, wish), result)
        return result[1]


class Sure(Judged):

    def test_the_examples_of_section_10(self):
        self.assertEqual(sure(BOOK, ROOM, ("upright", "a", "d"))[0], "sure")
        self.assertEqual(sure(BOOK, ROOM.by_hand(4), ("level", "a", "b"))[0], "fails")

    def test_arguments_by_name(self):
        self.assertEqual(sure(wish=("upright", "a", "d"), plan=ROOM, book=BOOK)[0], "sure")
        value = sure(BOOK, ROOM, ("upright", "a", "d"))
        self.assertIs(shows_sure(value=value, wish=("upright", "a", "d"), plan=ROOM, book=BOOK), True)

    def test_the_room(self):
        for wish in (
            ("level", "a", "b"), ("upright", "b", "c"), ("level", "c", "d"), ("upright", "a", "d"),
            ("x", "b", "a", 57, 63), ("y", "c", "b", 37, 43), ("y", "d", "a", 37, 43), ("apart", "a", "c", 57),
        ):
            self.check_sure(BOOK, ROOM, wish)
        for wish in (
            ("same", "a", "b"), ("upright", "a", "b"), ("x", "b", "a", 58, 63), ("x", "b", "a", 57, 62),
            ("y", "c", "b", 38, 43), ("y", "c", "b", 37, 42), ("apart", "a", "c", 58), ("on", "a", "b", "c"),
        ):
            self.check_fails(BOOK, ROOM, wish)
        hands = self.check_fails(BOOK, ROOM.by_hand(4), ("level", "a", "b"))
        self.assertEqual(abs(hands[1][1] - hands[0][1]), 4)

    def test_hands_with_which_nothing_can_be_otherwise(self):
        plan = Plan("hand 0\npoint a at 1 1\npoint b by a 0 5\npoint c cross a b\nwall a b\npoint d by a 0 3")
        for wish in (("same", "b", "c"), ("on", "d", "a", "b"), ("upright", "a", "b"), ("y", "b", "a", 5, 5),
                     ("apart", "a", "b", 5)):
            self.assertEqual(self.check_sure(Book("among eldest\nlevel 0"), plan, wish), ("fine",))
        for wish in (("same", "a", "c"), ("on", "b", "a", "c"), ("level", "a", "b"), ("y", "b", "a", 5, 4),
                     ("apart", "a", "b", 6)):
            self.assertEqual(self.check_fails(Book("among eldest\nlevel 0"), plan, wish),
                             ((1, 1), (1, 6), (1, 6), (1, 4)))

    def test_a_point_on_a_wall(self):
        plan = Plan("hand 2\npoint a at 0 0\npoint b by a 40 0\nwall a b\npoint c by a 20 0\npoint d cross c a")
        book = Book("among eldest\nwall 4\nlevel 2")
        self.check_sure(book, plan, ("on", "c", "a", "b"))
        self.check_sure(book, plan, ("on", "c", "b", "a"))
        self.check_fails(Book("among eldest\nwall 4"), plan, ("on", "c", "a", "b"))
        self.check_fails(book, plan.by_hand(3), ("on", "c", "a", "b"))
        # So near to an end it may come to the end itself, or beyond it.
        text = "hand 2\npoint a at 0 0\npoint b by a 40 0 within 0\nwall a b\npoint c by a {} 0"
        for x in (0, 1, 2, 38, 39, 40):
            self.check_fails(Book("among eldest\nwall 4"), Plan(text.format(x)), ("on", "c", "a", "b"))
        for x in (3, 4, 20, 36, 37):
            self.check_sure(Book("among eldest\nwall 4"), Plan(text.format(x)), ("on", "c", "a", "b"))
        # What stays free on the wall is then drawn to an end by another rule.
        for x, told in ((4, "fails"), (5, "sure"), (35, "sure"), (36, "fails")):
            self.assertEqual(sure(book, Plan(text.format(x)), ("on", "c", "a", "b"))[0], told)

    def test_hands_by_which_a_point_is_on_no_wall(self):
        # By the greatest places of all hands, and by the least ones, c is on the wall; by others it is not.
        for turn in (False, True):
            plan = Plan("hand 1\npoint a at 0 0\npoint b at 40 0\npoint c at 20 0")
            for wish in (("on", "c", "a", "b"), ("on", "c", "b", "a")):
                self.check_fails(Book("among eldest\ncorner 0"), turned(plan) if turn else plan, wish)
        # On the one wall, or on the other one: so the first comparison alone tells nothing.
        plan = Plan("hand 0\npoint a at 0 0\npoint b at 0 0 within 2\npoint c at 1 1 within 1")
        for wish in (("on", "c", "a", "b"), ("on", "a", "b", "c"), ("on", "b", "c", "a")):
            self.check_fails(Book("among eldest\ncorner 0"), plan, wish)

    def test_apart_in_one_axis_or_in_the_other(self):
        # By a grid b is off by nothing, or by one step at least, in x or in y.
        book = Book("among eldest\ngrid 6")
        plan = Plan("hand 5\npoint a at 0 0\npoint b at 6 0")
        self.check_fails(book, plan, ("apart", "a", "b", 1))
        plan = Plan("hand 5\npoint a at 0 0 within 0\npoint b at 9 9")
        self.check_fails(book, plan, ("apart", "a", "b", 7))
        self.check_sure(book, plan, ("apart", "a", "b", 6))

    def test_bounds_0_and_99(self):
        plan = "hand {}\npoint a at 0 0\npoint b by a 500 0"
        for hand in (0, 1, 50, 98, 99):
            asked = Plan(plan.format(hand))
            self.check_sure(Book("among latest\nlevel 99"), asked, ("level", "a", "b"))
            self.check_sure(Book("among latest\nlevel 99"), asked, ("x", "b", "a", 500 - hand, 500 + hand))
            self.check_fails(Book("among latest\nlevel 99"), asked, ("x", "b", "a", 501 - hand, 500 + hand))
        self.check_fails(Book("among latest\nlevel 98"), Plan(plan.format(99)), ("level", "a", "b"))

    def test_six_points_and_four_walls(self):
        plan = Plan(
            "hand 2\npoint a at -999 999\npoint b by a 60 0\npoint c by b 0 -50\npoint d cross a c\nwall a b\n"
            "wall b c\nwall c d\nwall d a\npoint e by a 30 0\npoint f cross e d"
        )
        book = Book("among latest\ncorner 4\nwall 4\nlevel 2")
        for wish in (("on", "e", "a", "b"), ("on", "f", "c", "d"), ("upright", "e", "f"), ("level", "c", "f"),
                     ("apart", "a", "e", 26)):
            self.check_sure(book, plan, wish)
        self.check_fails(book, plan, ("x", "e", "f", -1, -1))

    def test_just_400_and_just_above(self):
        book, plan = JUST_400
        self.check_sure(book, plan, ("apart", "a", "b", 480), False)
        self.check_fails(book, plan, ("apart", "a", "b", 481))
        for book, plan in ABOVE_400:
            for wish in (("apart", "a", "b", 1), ("x", "a", "b", -99999, 99999), ("same", "a", "b")):
                self.refuses(TooMany, 400, sure, book, plan, wish)
                for value in (None, ("fine",), ("sure", ("fine",)), ("fails", ())):
                    self.refuses(TooMany, 400, shows_sure, book, plan, wish, value)
                    self.refuses(TooMany, 400, shows_sure, value=value, wish=wish, plan=plan, book=book)

    def test_bad_wish_ahead_of_too_many(self):
        book, plan = ABOVE_400[0]
        for value in odd_values():
            self.refuses(BadWish, value, sure, book, plan, value)
            self.refuses(BadWish, value, shows_sure, book, plan, value, value)

    def test_more_wishes_than_cases_can_tell_apart(self):
        # One case; but whether c is apart from a depends on x or on y.
        book = Book("among eldest\nlevel 0")
        plan = Plan("hand 9\npoint a at 0 0 within 0\npoint b at 500 500")
        self.assertEqual(cases(book, plan), 1)
        self.check_sure(book, plan, ("apart", "a", "b", 491))
        self.check_fails(book, plan, ("apart", "a", "b", 492))

    def test_by_all_steady_hands(self):
        dealt = random.Random(92)
        found = {"sure": 0, "fails": 0}
        trees = 0
        for _ in range(220):
            many = dealt.choice((2, 2, 3))
            book = deal_book(dealt)
            plan = deal_plan(dealt, many=many, hand=dealt.choice((0, 1)) if many == 3 else dealt.randint(0, 2), walls=3)
            steady = all_steady(book, plan)
            for _ in range(6):
                wish = deal_wish(dealt, plan)
                fails = [hands for hands, places in steady if not is_kept(plan, wish, places)]
                with self.subTest(book=book.text, plan=plan.text, wish=wish):
                    if fails:
                        self.assertIn(self.check_fails(book, plan, wish), fails)
                    else:
                        trees += self.check_sure(book, plan, wish) != ("fine",)
                    found["fails" if fails else "sure"] += 1
        self.assertGreater(min(found.values()), 150)
        self.assertGreater(trees, 30)


class WishesOnWalls(Judged):
    """A point on a wall, or not, by all steady hands: such wishes are seldom sure by chance."""

    def test_by_all_steady_hands(self):
        dealt = random.Random(93)
        found = {"sure": 0, "fails": 0}
        for _ in range(200):
            far = dealt.randint(4, 6)
            level = dealt.random() < 0.5
            far, middle = ((far, 0), (dealt.randint(1, 3), dealt.randint(-1, 1)))
            if not level:
                far, middle = far[::-1], middle[::-1]
            plan = Plan(
                f"hand 1\npoint a at 0 0 within {dealt.randint(0, 1)}\npoint b by a {far[0]} {far[1]}\n"
                + dealt.choice(("wall a b\n", "wall b a\nwall a b\n"))
                + f"point c by {dealt.choice('ab')} {middle[0]} {middle[1]} within {dealt.randint(0, 1)}"
            )
            rules = dealt.sample(["wall 2", "level 1", "straight 1", "corner 1"], dealt.randint(1, 3))
            book = Book("\n".join(["among " + dealt.choice(("eldest", "latest"))] + rules))
            steady = all_steady(book, plan)
            for wish in (("on", "c", "a", "b"), ("on", "c", "b", "a"), ("on", "b", "a", "c")):
                fails = [hands for hands, places in steady if not is_kept(plan, wish, places)]
                with self.subTest(book=book.text, plan=plan.text, wish=wish):
                    if fails:
                        self.assertIn(self.check_fails(book, plan, wish), fails)
                    else:
                        self.check_sure(book, plan, wish)
                    found["fails" if fails else "sure"] += 1
        self.assertGreater(min(found.values()), 20)


class Guarantees(Judged):
    """Section 3: what is sure stays so if hands get steadier, and if all is moved or turned."""

    def deal(self, seed, words=("corner", "wall", "level", "straight", "grid")):
        dealt = random.Random(seed)
        for _ in range(120):
            book = deal_book(dealt, words)
            plan = deal_plan(dealt, many=dealt.choice((2, 3, 4)), hand=dealt.randint(1, 2), walls=3, reach=9)
            yield dealt, book, plan, deal_wish(dealt, plan)

    def judged(self, book, plan, wish):
        """("sure" or "fails", cases), or None if there are too many."""
        try:
            return sure(book, plan, wish)[0], cases(book, plan)
        except TooMany:
            return None

    def test_steadier(self):
        found = 0
        for dealt, book, plan, wish in self.deal(94):
            told = self.judged(book, plan, wish)
            if told is None or told[0] == "fails":
                continue
            found += 1
            for at, line in enumerate(plan.text.split("\n")):
                lines = plan.text.split("\n")
                if "point" in line:
                    bound = plan[line.split(" ")[1]][1]
                    lines[at] = line.split(" within ")[0] + f" within {dealt.randint(0, bound)}"
                self.assertEqual(sure(book, Plan("\n".join(lines)), wish)[0], "sure")
            self.assertEqual(sure(book, plan.by_hand(plan.hand - 1), wish)[0], "sure")
        self.assertGreater(found, 15)

    def test_moved(self):
        for dealt, book, plan, wish in self.deal(95, ("corner", "wall", "level", "straight")):
            told = self.judged(book, plan, wish)
            for x, y in ((dealt.randint(-90, 90), 0), (0, dealt.randint(-90, 90))):
                other = moved(plan, x, y)
                self.assertEqual(self.judged(book, other, wish), told)
                if told is not None and told[0] == "fails":
                    hands = tuple((place[0] + x, place[1] + y) for place in sure(book, plan, wish)[1])
                    if all(" at " in line for line in plan.text.split("\n") if "point" in line):
                        self.assertIs(shows_sure(book, other, wish, ("fails", hands)), True)

    def test_turned(self):
        for _, book, plan, wish in self.deal(96):
            told, other = self.judged(book, plan, wish), self.judged(book, turned(plan), turned_wish(wish))
            if told is not None and other is not None:
                self.assertEqual(told[0], other[0])

    def test_all_wobbles(self):
        for dealt, book, plan, wish in self.deal(97):
            if self.judged(book, plan, wish) in (None, ("fails", 1)) or sure(book, plan, wish)[0] == "fails":
                continue
            for _ in range(20):
                hands = ()
                for name in plan.points:
                    aim, bound = plan[name]
                    places = dict(zip(plan.points, drawn(book, plan, hands + ((0, 0),) * (len(plan) - len(hands)))))
                    x, y = aim[-2:]
                    if aim[0] == "by":
                        x, y = places[aim[1]][0] + x, places[aim[1]][1] + y
                    elif aim[0] == "cross":
                        x, y = places[aim[1]][0], places[aim[2]][1]
                    hands += ((x + dealt.randint(-bound, bound), y + dealt.randint(-bound, bound)),)
                self.assertIs(is_steady(book, plan, hands), True)
                self.assertIs(kept(book, plan, wish, hands), True)
