"""Section 8: wishes, and kept."""

import itertools
import random
import unittest

from tests.dealt import deal_book, deal_plan, deal_wish
from tests.odd import RefusingTestCase, nested, odd_values, with_each_part_changed
from tests.reference import draw_all, is_kept
from wobblesnap.books import Book
from wobblesnap.errors import BadHands, BadWish
from wobblesnap.judging import shows_sure, sure
from wobblesnap.plans import Plan
from wobblesnap.wishes import kept

# By this book each point is drawn where its hand is, unless it is level with one above, which changes nothing.
PLAIN = Book("among eldest\nlevel 0")
THREE = Plan("hand 3\npoint a at 0 0\npoint b at 0 0\npoint c at 0 0")
PLACES = ((0, 0), (1, 1), (2, 2))
WISHES = (
    ("same", "a", "b"), ("level", "a", "b"), ("upright", "c", "a"), ("x", "a", "b", -3, 4), ("y", "c", "b", 0, 1),
    ("on", "a", "b", "c"), ("on", "c", "a", "b"), ("apart", "b", "a", 1), ("apart", "a", "b", 99999),
    ("x", "a", "b", -99999, 99999), ("y", "a", "b", 99999, -99999), ("x", "b", "a", 1, 0),
    ("x", "b", "c", 99999, -99999), ("y", "b", "c", -99999, 99999),
)


class Kept(unittest.TestCase):

    def kept(self, wish, *hands):
        answer = kept(PLAIN, THREE, wish, hands)
        self.assertIs(type(answer), bool)
        return answer

    def test_same_level_and_upright(self):
        for x, y in itertools.product(range(-2, 3), repeat=2):
            hands = ((5, 6), (9, 9), (5 + x, 6 + y))
            for one, other in (("a", "c"), ("c", "a")):
                self.assertIs(self.kept(("same", one, other), *hands), x == y == 0)
                self.assertIs(self.kept(("level", one, other), *hands), y == 0)
                self.assertIs(self.kept(("upright", one, other), *hands), x == 0)

    def test_differences(self):
        for less in range(-6, 7):
            for low, high in itertools.product(range(-5, 6), repeat=2):
                hands = ((10 + less, 0), (10, 0), (0, 0))
                self.assertIs(self.kept(("x", "a", "b", low, high), *hands), low <= less <= high)
                hands = ((0, 10 + less), (0, 10), (0, 0))
                self.assertIs(self.kept(("y", "a", "b", low, high), *hands), low <= less <= high)
                self.assertIs(self.kept(("y", "b", "a", low, high), *hands), low <= -less <= high)
                self.assertIs(self.kept(("x", "a", "b", low, high), *hands), low <= 0 <= high)

    def test_differences_at_the_ends(self):
        hands = ((0, 99999), (0, 0), (0, 0))
        self.assertIs(self.kept(("y", "a", "b", 99999, 99999), *hands), True)
        self.assertIs(self.kept(("y", "b", "a", -99999, -99999), *hands), True)
        self.assertIs(self.kept(("y", "a", "b", -99999, 99998), *hands), False)

    def test_on(self):
        for x, y in itertools.product(range(-2, 8), repeat=2):
            for hands, on in (
                (((x, y), (0, 0), (5, 0)), y == 0 and 0 < x < 5), (((x, y), (5, 0), (0, 0)), y == 0 and 0 < x < 5),
                (((x, y), (0, 0), (0, 5)), x == 0 and 0 < y < 5), (((x, y), (0, 5), (0, 0)), x == 0 and 0 < y < 5),
                (((x, y), (0, 0), (5, 5)), False), (((x, y), (0, 0), (5, 1)), False),
                (((x, y), (3, 3), (3, 3)), False), (((x, y), (0, 0), (1, 0)), False),
            ):
                self.assertIs(self.kept(("on", "a", "b", "c"), *hands), on)
                self.assertIs(self.kept(("on", "a", "c", "b"), *hands), on)
        self.assertIs(self.kept(("on", "b", "a", "c"), (0, 0), (2, 0), (5, 0)), True)

    def test_on_needs_no_wall_of_the_plan(self):
        plan = Plan("hand 3\npoint a at 0 0\npoint b at 0 0\nwall a b\npoint c at 0 0")
        self.assertIs(kept(PLAIN, plan, ("on", "b", "a", "c"), ((0, 0), (2, 0), (5, 0))), True)
        self.assertIs(kept(PLAIN, plan, ("on", "c", "a", "b"), ((0, 0), (2, 0), (5, 0))), False)

    def test_apart(self):
        for x, y in itertools.product(range(-4, 5), repeat=2):
            for many in range(1, 6):
                hands = ((3, 3), (3 + x, 3 + y), (0, 0))
                self.assertIs(self.kept(("apart", "a", "b", many), *hands), abs(x) >= many or abs(y) >= many)
                self.assertIs(self.kept(("apart", "b", "a", many), *hands), abs(x) >= many or abs(y) >= many)
        self.assertIs(self.kept(("apart", "a", "b", 99999), (0, 0), (0, -99999), (0, 0)), True)
        self.assertIs(self.kept(("apart", "a", "b", 99999), (0, 0), (99998, -99998), (0, 0)), False)

    def test_drawn_points_are_asked_not_the_hands(self):
        book = Book("among eldest\ncorner 5\nlevel 3")
        self.assertIs(kept(book, THREE, ("same", "a", "b"), ((0, 0), (5, -5), (90, 90))), True)
        self.assertIs(kept(book, THREE, ("apart", "a", "b", 1), ((0, 0), (5, -5), (90, 90))), False)
        self.assertIs(kept(book, THREE, ("level", "a", "c"), ((0, 0), (50, 50), (90, 3))), True)

    def test_hands_need_not_be_steady(self):
        self.assertIs(self.kept(("same", "a", "b"), (500, 500), (500, 500), (0, 0)), True)

    def test_arguments_by_name(self):
        self.assertIs(kept(hands=PLACES, wish=("level", "a", "b"), plan=THREE, book=PLAIN), False)

    def test_by_the_reference(self):
        dealt = random.Random(81)
        found = {True: 0, False: 0}
        for _ in range(3000):
            book = deal_book(dealt)
            plan = deal_plan(dealt, many=dealt.randint(2, 6), hand=2, walls=4)
            hands = tuple((dealt.randint(-6, 6), dealt.randint(-6, 6)) for _ in plan.points)
            wish = deal_wish(dealt, plan)
            answer = kept(book, plan, wish, hands)
            found[answer] += 1
            self.assertIs(answer, is_kept(plan, wish, draw_all(book, plan, hands)[0]))
        self.assertGreater(min(found.values()), 300)


class WrongWishes(RefusingTestCase):

    def bad(self, wish, plan=THREE, hands=PLACES):
        with self.subTest(wish=wish):
            self.refuses(BadWish, wish, kept, PLAIN, plan, wish, hands)
            self.refuses(BadWish, wish, kept, book=PLAIN, plan=plan, wish=wish, hands=None)
            self.refuses(BadWish, wish, sure, PLAIN, plan, wish)
            self.refuses(BadWish, wish, sure, book=PLAIN, plan=plan, wish=wish)
            self.refuses(BadWish, wish, shows_sure, PLAIN, plan, wish, ("sure", ("fine",)))
            self.refuses(BadWish, wish, shows_sure, book=PLAIN, plan=plan, wish=wish, value=None)

    def test_right_ones(self):
        for wish in WISHES:
            self.assertIs(type(kept(PLAIN, THREE, wish, PLACES)), bool)

    def test_odd_values(self):
        for value in odd_values():
            self.bad(value)
            for wish in WISHES:
                for at, part in enumerate(wish):
                    if type(part) is not type(value) or (type(value) is str and value not in "abc"):
                        self.bad(wish[:at] + (value,) + wish[at + 1:])
                self.bad(wish + (value,))
                self.bad((value,) + wish)

    def test_one_part_otherwise(self):
        for wish in WISHES:
            for path, changed in with_each_part_changed(wish):
                if not (isinstance(changed, tuple) and len(changed) == len(wish) and type(changed[path[0]]) is int):
                    self.bad(changed)

    def test_kinds(self):
        for wish in WISHES:
            for kind in ("", "Same", "same ", "z", "X", "equal", "wall", "corner", "0", None):
                self.bad((kind,) + wish[1:])
            self.bad(wish[1:])
            self.bad(wish[:-1])
            self.bad(wish[:1])
            self.bad((wish,))
            self.bad(list(wish))

    def test_a_kind_with_the_parts_of_another(self):
        parts = (("a", "b"), ("a", "b", "c"), ("a", "b", 1), ("a", "b", 1, 2))
        right = {"same": 0, "level": 0, "upright": 0, "on": 1, "apart": 2, "x": 3, "y": 3}
        for kind, number in right.items():
            for at, part in enumerate(parts):
                if at != number:
                    self.bad((kind,) + part)

    def test_names(self):
        for name in ("d", "A", "a!", "", "0", "ab", "aa", " a", "a ", "at", "hand"):
            for wish in WISHES:
                for at in range(1, 4 if wish[0] == "on" else 3):
                    self.bad(wish[:at] + (name,) + wish[at + 1:])

    def test_alike_names(self):
        for wish in WISHES:
            for name in "abc":
                self.bad(wish[:1] + (name, name) + wish[3:])
        for names in (("a", "a", "b"), ("a", "b", "a"), ("b", "a", "a"), ("a", "a", "a")):
            self.bad(("on",) + names)

    def test_numbers(self):
        for number in (-100000, 100000, 999999999, "1", (1,), [1], None, True, False):
            for kind in ("x", "y"):
                self.bad((kind, "a", "b", number, 5))
                self.bad((kind, "a", "b", -5, number))
            self.bad(("apart", "a", "b", number))
        for number in (0, -1, -99999):
            self.bad(("apart", "a", "b", number))

    def test_names_of_this_plan(self):
        plan = Plan("hand 0\npoint same at 0 0\npoint x at 0 5")
        self.assertIs(kept(PLAIN, plan, ("upright", "same", "x"), ((0, 0), (0, 5))), True)
        self.assertIs(kept(PLAIN, plan, ("y", "x", "same", 5, 5), ((0, 0), (0, 5))), True)
        self.bad(("upright", "a", "x"), plan, ((0, 0), (0, 5)))
        self.bad(("on", "a", "b", "c"), Plan("hand 0\npoint a at 0 0\npoint b at 1 1"), ((0, 0), (1, 1)))
        self.bad(("same", "a", "a"), Plan("hand 0\npoint a at 0 0"), ((0, 0),))

    def test_very_deep_ones(self):
        deep = nested("a", 50000, lambda value: (value,))
        for wish in (deep, ("same", "a", deep), ("same", deep, "a"), (deep, "a", "b"), ("x", "a", "b", 1, deep)):
            self.refuses(BadWish, wish, kept, PLAIN, THREE, wish, PLACES)
            self.refuses(BadWish, wish, sure, PLAIN, THREE, wish)
            self.refuses(BadWish, wish, shows_sure, PLAIN, THREE, wish, deep)

    def test_ahead_of_bad_hands(self):
        for value in odd_values():
            self.refuses(BadWish, value, kept, PLAIN, THREE, value, value)
            self.refuses(BadHands, value, kept, PLAIN, THREE, ("same", "a", "b"), value)
        two = PLACES[:2]
        self.refuses(BadHands, two, kept, book=PLAIN, plan=THREE, wish=("same", "a", "b"), hands=two)


class BadHandsOfKept(RefusingTestCase):

    def test_one_part_otherwise(self):
        for path, changed in with_each_part_changed(PLACES):
            if len(path) == 2 and type(changed[path[0]]) is tuple and len(changed[path[0]]) == 2 and all(
                    type(number) is int for number in changed[path[0]]):
                continue
            with self.subTest(changed=changed):
                self.refuses(BadHands, changed, kept, PLAIN, THREE, ("level", "a", "b"), changed)
