"""Section 10: outcomes, spread and safest, which answers are right, and section 3 as far as it speaks of them."""

import random

from tests import lists
from tests.dealt import deal_book, deal_change, deal_plan, deal_wish, grow_tree
from tests.odd import RefusingTestCase, nested, odd_but, odd_values, with_each_part_changed, with_each_part_moved
from tests.reference import all_steady, is_right
from tests.test_judging import ABOVE_400, BOOK, JUST_400, ROOM, moved, turned, turned_wish
from wobblesnap.books import Book
from wobblesnap.coming import outcomes, safest, shows_outcomes, shows_safest, shows_spread, spread
from wobblesnap.drawing import is_steady, taken
from wobblesnap.errors import BadWishes, NoAxis, NoPoint, TooMany
from wobblesnap.judging import cases, shows_sure, sure
from wobblesnap.plans import Plan

LEVEL = Book("among eldest\nlevel 3")
PAIR = Plan("hand 4\npoint a at 0 0\npoint b by a 60 0")
FREE = ("free",)
FINE = ("fine",)


def deal(seed, many, sizes=(1, 2, 2, 3)):
    """Books and plans so small that all steady hands can be tried."""
    dealt = random.Random(seed)
    for _ in range(many):
        points = dealt.choice(sizes)
        hand = dealt.choice((0, 1)) if points == 3 else dealt.randint(0, 2)
        yield dealt, deal_book(dealt), deal_plan(dealt, many=points, hand=hand, walls=3)


class Outcomes(RefusingTestCase):

    def test_the_examples(self):
        self.assertEqual(len(outcomes(BOOK, ROOM)), 1)
        ways, hands = outcomes(BOOK, ROOM)[0]
        self.assertEqual(ways, taken(BOOK, ROOM, hands))

    def test_one_and_many_ways_ascending(self):
        book, plan = Book("among eldest\ncorner 1\nlevel 1"), Plan("hand 2\npoint a at 0 0\npoint b by a 0 0")
        self.assertEqual([ways[1] for ways, _ in outcomes(book, plan)], [
            (("corner", "a"), ("corner", "a")), (FREE, FREE), (FREE, ("level", "a")), (("level", "a"), FREE),
        ])
        self.assertEqual([ways[1] for ways, _ in outcomes(book, plan.by_hand(1))], [(("corner", "a"), ("corner", "a"))])
        self.assertEqual(outcomes(Book("among latest\ngrid 7"), Plan("hand 0\npoint a at 4 -4"))[0][0],
                         ((("grid",), ("grid",)),))

    def test_several_cases_of_one_way(self):
        book, plan = JUST_400
        self.assertEqual(cases(book, plan), 400)
        found = outcomes(book, plan)
        self.assertEqual([ways for ways, _ in found], [((("grid",), ("grid",)),) * 2])
        self.assertIs(shows_outcomes(book, plan, found), True)

    def test_kinds(self):
        found = outcomes(BOOK, PAIR)
        self.assertEqual(len(found), 2)
        self.assertIs(type(found), tuple)
        for row in found:
            self.assertEqual([type(row), len(row), type(row[0]), type(row[1])], [tuple, 2, tuple, tuple])
            self.assertIs(is_steady(BOOK, PAIR, row[1]), True)
            self.assertEqual(taken(BOOK, PAIR, row[1]), row[0])
        self.assertEqual(outcomes(plan=PAIR, book=BOOK), found)
        self.assertIs(shows_outcomes(value=found, plan=PAIR, book=BOOK), True)

    def test_too_many(self):
        for book, plan in ABOVE_400:
            self.refuses(TooMany, 400, outcomes, book, plan)
            for value in (None, (), ((), ()), 400):
                self.refuses(TooMany, 400, shows_outcomes, book, plan, value)

    def test_by_all_steady_hands(self):
        many = 0
        for dealt, book, plan in deal(201, 120):
            rows = lists.rows_of(book, plan)
            found = outcomes(book, plan)
            many += len(found) > 1
            with self.subTest(book=book.text, plan=plan.text):
                self.assertIs(lists.is_outcomes(rows, found), True)
                self.assertIs(shows_outcomes(book, plan, found), True)
                other = tuple((ways, dealt.choice([row[0] for row in rows if row[2] == ways])) for ways, _ in found)
                self.assertIs(shows_outcomes(book, plan, other), True)
                self.assertEqual(outcomes(book, plan), found)
        self.assertGreater(many, 25)

    def test_one_part_otherwise(self):
        right = 0
        for dealt, book, plan in deal(202, 40, (1, 2, 2)):
            rows = lists.rows_of(book, plan)
            found = outcomes(book, plan)
            for changed in with_each_part_moved(found[:6]):
                changed = changed + found[6:]
                expected = lists.is_outcomes(rows, changed)
                right += expected
                with self.subTest(book=book.text, plan=plan.text, changed=changed):
                    self.assertIs(shows_outcomes(book, plan, changed), expected)
        self.assertGreater(right, 40)

    def test_wrong_forms(self):
        book, plan = LEVEL, PAIR
        found = outcomes(book, plan)
        for value in odd_values():
            self.assertIs(shows_outcomes(book, plan, value), False)
        for _, changed in with_each_part_changed(found):
            self.assertIs(shows_outcomes(book, plan, changed), False)
        for changed in (found[::-1], found + found, found[:1], found[1:], found[:1] * 2, ((found[0][0], found[1][1]),
                        (found[1][0], found[0][1])), (found, found), tuple(row[0] for row in found)):
            self.assertIs(shows_outcomes(book, plan, changed), False)

    def test_deep_values(self):
        found = outcomes(LEVEL, PAIR)
        for wrap in (lambda value: (value,), lambda value: [value], lambda value: (value, found)):
            deep = nested(found, 50000, wrap)
            for value in (deep, (deep, deep), ((deep, found[0][1]), found[1]), ((found[0][0], deep), found[1])):
                self.assertIs(shows_outcomes(LEVEL, PAIR, value), False)


class Spread(RefusingTestCase):

    def shown(self, book, plan, pair, value):
        return shows_spread(book, plan, *pair, value)

    def test_the_example(self):
        self.assertEqual(spread(BOOK, ROOM, "y", "c", "b")[:2], (37, 43))
        self.assertEqual(spread(BOOK, ROOM, "y", "b", "c")[:2], (-43, -37))

    def test_points_that_never_part(self):
        found = spread(BOOK, ROOM, "x", "d", "a")
        self.assertEqual(found[:2], (0, 0))
        self.assertIs(shows_spread(BOOK, ROOM, "x", "d", "a", found), True)
        plan = Plan("hand 0\npoint a at -3 4\npoint b by a 7 20")
        for axis, number in (("x", -7), ("y", -20)):
            self.assertEqual(spread(LEVEL, plan, axis, "a", "b"),
                             (number, number, ((-3, 4), (4, 24)), ((-3, 4), (4, 24)), FINE))

    def test_both_axes_and_kinds(self):
        for axis, numbers in (("x", (56, 64)), ("y", (-4, 4))):
            found = spread(LEVEL, PAIR, axis, "b", "a")
            self.assertEqual([type(found), len(found)], [tuple, 5])
            self.assertEqual(found[:2], numbers)
            self.assertEqual([type(number) for number in found[:2]], [int, int])
            self.assertIs(is_right(LEVEL, PAIR, (axis, "b", "a") + numbers, found[4]), True)
            self.assertIs(shows_sure(LEVEL, PAIR, (axis, "b", "a") + numbers, ("sure", found[4])), True)
            self.assertEqual(spread(LEVEL, PAIR, axis, "b", "a"), found)
            self.assertEqual(spread(other="a", one="b", axis=axis, plan=PAIR, book=LEVEL), found)
            self.assertIs(shows_spread(value=found, other="a", one="b", axis=axis, plan=PAIR, book=LEVEL), True)

    def test_the_greatest_places(self):
        lines = ["hand 99", "point a at -999 -999"]
        lines += [f"point {name} by {elder} 999 999" for elder, name in zip("abcde", "bcdef")]
        plan = Plan("\n".join(lines))
        found = spread(Book("among latest\ncorner 0"), plan, "y", "f", "a")
        self.assertEqual(found[:2], (5 * 900, 5 * 1098))
        self.assertIs(shows_spread(Book("among latest\ncorner 0"), plan, "y", "f", "a", found), True)

    def test_errors_in_sequence(self):
        book, plan = ABOVE_400[0]
        for value in odd_values() + ["X", "z", "xy", "x ", 120]:
            self.refuses(NoAxis, value, spread, book, plan, value, "a", "b")
            self.refuses(NoAxis, value, spread, book, plan, value, value, value)
            self.refuses(NoAxis, value, shows_spread, book, plan, value, "q", None, value)
        names = odd_but(str) + ["c", "A", "a!", "0", "", "a ", "point"]
        for value in names:
            self.refuses(NoPoint, value, spread, book, plan, "x", value, "b")
            self.refuses(NoPoint, value, spread, book, plan, "y", value, "zz")
            self.refuses(NoPoint, value, spread, book, plan, "x", "a", value)
            self.refuses(NoPoint, value, shows_spread, book, plan, "y", value, value, value)
            self.refuses(NoPoint, value, shows_spread, book, plan, "y", "b", value, value)
        for name in ("a", "b"):
            self.refuses(NoPoint, name, spread, book, plan, "x", name, name)
            self.refuses(NoPoint, name, shows_spread, book, plan, "x", name, name, None)
        for book, plan in ABOVE_400:
            self.refuses(TooMany, 400, spread, book, plan, "x", "a", "b")
            self.refuses(TooMany, 400, shows_spread, book, plan, "x", "a", "b", None)
        book, plan = JUST_400
        self.assertEqual(spread(book, plan, "x", "b", "a")[:2], (480, 518))

    def test_by_all_steady_hands(self):
        apart = 0
        for dealt, book, plan in deal(203, 110, (2, 2, 3)):
            rows = lists.rows_of(book, plan)
            for axis in ("x", "y"):
                pair = (axis,) + tuple(dealt.sample(plan.points, 2))
                found = spread(book, plan, *pair)
                apart += found[0] < found[1] and found[4] != FINE
                found_by = {number: [row[0] for row in rows if lists.less(plan, *pair, row[1]) == number]
                            for number in found[:2]}
                with self.subTest(book=book.text, plan=plan.text, pair=pair):
                    self.assertIs(lists.is_spread(book, plan, rows, pair, found), True)
                    self.assertIs(self.shown(book, plan, pair, found), True)
                    tree = grow_tree(dealt, book, plan, pair + found[:2], dealt.randint(0, 2))
                    other = found[:2] + tuple(dealt.choice(found_by[number]) for number in found[:2]) + (tree,)
                    self.assertIs(self.shown(book, plan, pair, other), True)
                    changed = found[:4] + (deal_change(dealt, book, plan, pair + found[:2], tree),)
                    self.assertIs(self.shown(book, plan, pair, changed),
                                  is_right(book, plan, pair + found[:2], changed[4]))
        self.assertGreater(apart, 30)

    def test_one_part_otherwise(self):
        right = 0
        for dealt, book, plan in deal(204, 7, (2, 2)):
            rows = lists.rows_of(book, plan)
            pair = (dealt.choice("xy"),) + tuple(dealt.sample(plan.points, 2))
            found = spread(book, plan, *pair)
            for changed in with_each_part_moved(found):
                expected = lists.is_spread(book, plan, rows, pair, changed)
                right += expected
                with self.subTest(book=book.text, plan=plan.text, pair=pair, changed=changed):
                    self.assertIs(self.shown(book, plan, pair, changed), expected)
        self.assertGreater(right, 20)

    def test_wrong_forms(self):
        pair = ("y", "b", "a")
        found = spread(LEVEL, PAIR, *pair)
        self.assertNotEqual(found[4], FINE)
        for value in odd_values():
            self.assertIs(self.shown(LEVEL, PAIR, pair, value), False)
        for _, changed in with_each_part_changed(found):
            self.assertIs(self.shown(LEVEL, PAIR, pair, changed), False)
        low, high, first, last, tree = found
        for changed in ((low, high, last, first, tree), (high, low, last, first, tree), (low, high, first, last),
                        (low - 1, high, first, last, tree), (low, high + 1, first, last, tree),
                        (low, high, first, last, FINE), (low, low, first, first, tree), ("sure", tree)):
            self.assertIs(self.shown(LEVEL, PAIR, pair, changed), False)
        still = Plan("hand 0\npoint a at 0 0\npoint b at 1 0")
        hands = ((0, 0), (1, 0))
        self.assertIs(shows_spread(LEVEL, still, "y", "b", "a", (0, 0, hands, hands, FINE)), True)
        for value in ((False, 0, hands, hands, FINE), (0, False, hands, hands, FINE),
                      (0, 0, ((0, 0), (True, 0)), hands, FINE), (0, 0, hands, ((0, False), (1, 0)), FINE)):
            self.assertIs(shows_spread(LEVEL, still, "y", "b", "a", value), False)

    def test_deep_values(self):
        pair = ("y", "b", "a")
        found = spread(LEVEL, PAIR, *pair)
        for wrap in (lambda value: (value,), lambda value: [value], lambda value: (0, value)):
            deep = nested(found, 50000, wrap)
            for at in range(5):
                self.assertIs(self.shown(LEVEL, PAIR, pair, found[:at] + (deep,) + found[at + 1:]), False)
        tree = found[4]
        for _ in range(20000):
            tree = ("ask", "x", "a", "0", 0, tree, ("never", "x", (("0", "a", -1), ("a", "0", 0))))
        tree = ("ask", "x", "a", "0", 0, tree, found[4])
        self.assertIs(self.shown(LEVEL, PAIR, pair, found[:4] + (tree,)), True)


class Safest(RefusingTestCase):

    def check(self, book, plan, wishes):
        found = safest(book, plan, wishes)
        self.assertIs(type(found), tuple)
        self.assertIs(type(found[0]), int)
        self.assertEqual(len(found), 2 if found[0] == 99 else 4)
        self.assertIs(type(found[1]), tuple)
        self.assertIs(shows_safest(book, plan, wishes, found), True)
        self.assertEqual(safest(book, plan, wishes), found)
        self.check_in_sequence(book, plan, wishes, found)
        return found

    def check_in_sequence(self, book, plan, wishes, found):
        """That the bounds up to the told one are safe, and the next one is not."""
        for bound in range(found[0] + 1):
            held = plan.by_hand(bound)
            self.assertEqual([sure(book, held, wish)[0] for wish in wishes], ["sure"] * len(wishes))
        if found[0] < 99:
            held = plan.by_hand(found[0] + 1)
            self.assertIs(type(found[2]), int)
            self.assertIs(shows_sure(book, held, wishes[found[2]], ("fails", found[3])), True)
        if found[0] < 0:
            self.assertEqual(found[1], ())
        else:
            held = plan.by_hand(found[0])
            self.assertEqual(len(found[1]), len(wishes))
            for wish, tree in zip(wishes, found[1]):
                self.assertIs(shows_sure(book, held, wish, ("sure", tree)), True)

    def test_the_example(self):
        self.assertEqual(self.check(BOOK, ROOM, (("level", "a", "b"),))[0], 3)
        # The plan's own hand does not matter.
        self.assertEqual(safest(BOOK, ROOM.by_hand(50), (("level", "a", "b"),)),
                         safest(BOOK, ROOM, (("level", "a", "b"),)))
        self.assertEqual(safest(wishes=(("level", "a", "b"),), plan=ROOM, book=BOOK)[0], 3)
        found = safest(BOOK, ROOM, (("level", "a", "b"),))
        self.assertIs(shows_safest(value=found, wishes=(("level", "a", "b"),), plan=ROOM, book=BOOK), True)

    def test_one_to_three_wishes(self):
        wishes = (("upright", "b", "c"), ("level", "a", "b"), ("apart", "a", "c", 60))
        # d takes the height of c, and c, b: all of them by 3.
        self.assertEqual(self.check(BOOK, ROOM, wishes[:1])[0], 3)
        self.assertEqual(self.check(BOOK, ROOM, wishes[:2])[0], 3)
        found = self.check(BOOK, ROOM, wishes)
        self.assertEqual((found[0], found[2]), (0, 2))
        self.assertEqual(len(found[1]), 3)
        same = self.check(BOOK, ROOM, wishes[1:2] * 3)
        self.assertEqual((same[0], len(same[1])), (3, 3))

    def test_99(self):
        book = Book("among eldest\nlevel 99")
        plan = Plan("hand 5\npoint a at 0 0\npoint b by a 500 0")
        found = self.check(book, plan, (("level", "a", "b"), ("x", "b", "a", 401, 599)))
        self.assertEqual(len(found), 2)
        self.assertEqual(found[0], 99)
        self.assertEqual(safest(Book("among eldest\nlevel 98"), plan, (("level", "a", "b"),))[0], 98)
        # Each click has its own within: so no bound in the first line counts.
        plan = Plan("hand 99\npoint a at 0 0 within 3\npoint b by a 60 0 within 3")
        self.assertEqual(self.check(LEVEL, plan, (("level", "a", "b"),))[0], 99)
        plan = Plan("hand 0\npoint a at 0 0 within 3\npoint b by a 60 0 within 4")
        self.assertEqual(self.check(LEVEL, plan, (("level", "a", "b"),))[0], -1)

    def test_a_wish_that_fails_by_0(self):
        plan = Plan("hand 9\npoint a at 0 0\npoint b by a 60 4")
        found = self.check(LEVEL, plan, (("upright", "a", "b"),))
        self.assertEqual(found, (-1, (), 0, ((0, 0), (60, 4))))
        found = self.check(LEVEL, plan, (("apart", "a", "b", 1), ("level", "a", "b")))
        self.assertEqual(found[:1] + found[2:3], (-1, 1))

    def test_the_number_of_any_wish_that_fails(self):
        wishes = (("level", "a", "b"), ("apart", "a", "b", 1), ("level", "b", "a"))
        bound, trees, number, hands = self.check(LEVEL, PAIR, wishes)
        self.assertEqual(bound, 3)
        for other in range(-2, 4):
            self.assertIs(shows_safest(LEVEL, PAIR, wishes, (bound, trees, other, hands)), other in (0, 2))
        self.assertIs(shows_safest(LEVEL, PAIR, wishes, (bound, trees, False, hands)), False)
        plan = Plan("hand 0\npoint a at 0 0\npoint b by a 60 4")
        for other in range(-2, 4):
            value = (-1, (), other, ((0, 0), (60, 4)))
            self.assertIs(shows_safest(LEVEL, plan, wishes, value), other in (0, 2))
        self.assertIs(shows_safest(LEVEL, plan, wishes, (-1, (), True, ((0, 0), (60, 4)))), False)

    def test_bad_wishes(self):
        book, plan = ABOVE_400[1]
        wish = ("level", "a", "b")
        for value in odd_values() + [
            (wish,) * 4, [wish], wish, ((wish,),), (wish, None), (list(wish),), (wish, wish, ("level", "a", "c")),
            (("x", "a", "b", 0, True),), (("level", "a", "a"),), (("same", "a"),), {0: wish}, "level", ((), wish),
        ]:
            self.refuses(BadWishes, value, safest, book, plan, value)
            self.refuses(BadWishes, value, shows_safest, book, plan, value, value)
            self.refuses(BadWishes, value, shows_safest, book, plan, wishes=value, value=(0, (), 0, ()))

    def test_too_many(self):
        # By 19 there are 400 cases; and by 20 too many, whether a wish fails by it or not.
        book, plan = JUST_400
        self.assertEqual(cases(book, plan.by_hand(19)), 400)
        for numbers in ((480, 518), (480, 520), (-99999, 99999)):
            self.refuses(TooMany, 400, safest, book, plan, (("x", "b", "a") + numbers,))
            self.refuses(TooMany, 400, shows_safest, book, plan, (("x", "b", "a") + numbers,), None)
            self.refuses(TooMany, 400, safest, book, plan.by_hand(0), (("x", "b", "a") + numbers,))
        # By 18 a wish is sure, and by 19 it fails: what comes behind is not looked at.
        found = self.check(book, plan, (("x", "b", "a", 482, 518),))
        self.assertEqual(found[0], 18)
        # Too many by 0 already.
        for book, plan in ABOVE_400[:2]:
            self.refuses(TooMany, 400, safest, book, plan, (("level", "a", "b"),))
            self.refuses(TooMany, 400, safest, book, plan, (("same", "a", "b"), ("apart", "a", "b", 1)))

    def test_by_all_steady_hands(self):
        found = {}
        for dealt, book, plan in deal(205, 150, (2, 2, 2, 2, 2, 3)):
            wishes = tuple(deal_wish(dealt, plan) for _ in range(dealt.randint(1, 3)))
            bound = lists.greatest_safe(book, plan, wishes, 2 if len(plan) == 2 else 1)
            if bound is None:
                continue
            found[bound] = found.get(bound, 0) + 1
            value = safest(book, plan, wishes)
            with self.subTest(book=book.text, plan=plan.text, wishes=wishes):
                self.assertIs(lists.is_safest(book, plan, wishes, bound, value), True)
                self.assertIs(shows_safest(book, plan, wishes, value), True)
                held, next_one = plan.by_hand(max(bound, 0)), plan.by_hand(bound + 1)
                trees = tuple(grow_tree(dealt, book, held, wish, 2) for wish in wishes) if bound >= 0 else ()
                rows = lists.rows_of(book, next_one)
                numbers = [at for at, wish in enumerate(wishes) if lists.failing(next_one, rows, wish)]
                number = dealt.choice(numbers)
                hands = dealt.choice(lists.failing(next_one, rows, wishes[number]))
                self.assertIs(shows_safest(book, plan, wishes, (bound, trees, number, hands)), True)
                self.assertIs(shows_safest(book, plan, wishes, (bound + 1, trees, number, hands)), False)
                self.assertIs(shows_safest(book, plan, wishes, (bound - 1, trees, number, hands)), False)
        self.assertGreater(found[-1], 40)
        self.assertGreater(found[0] + found[1], 10)

    def test_one_part_otherwise(self):
        right = 0
        for dealt, book, plan in deal(206, 10, (2, 2)):
            wishes = tuple(deal_wish(dealt, plan) for _ in range(dealt.randint(1, 2)))
            bound = lists.greatest_safe(book, plan, wishes, 1)
            if bound is None:
                continue
            value = safest(book, plan, wishes)
            changes = [value[:2] + changed for changed in with_each_part_moved(value[2:])]
            others = list(with_each_part_moved(value))
            for changed in changes + dealt.sample(others, min(len(others), 30)):
                expected = lists.is_safest(book, plan, wishes, bound, changed)
                right += expected
                with self.subTest(book=book.text, plan=plan.text, wishes=wishes, changed=changed):
                    self.assertIs(shows_safest(book, plan, wishes, changed), expected)
        self.assertGreater(right, 5)

    def test_wrong_forms(self):
        wishes = (("y", "b", "a", -4, 4), ("apart", "a", "b", 1))
        value = safest(LEVEL, PAIR, wishes)
        self.assertEqual(value[0], 4)
        self.assertNotEqual(value[1][0], FINE)
        failing = (-1, (), 0, ((0, 0), (60, 4)))
        plan = Plan("hand 0\npoint a at 0 0\npoint b by a 60 4")
        endless = (99, (FINE, FINE))
        still = Plan("hand 0\npoint a at 0 0 within 0\npoint b at 60 0 within 0")
        for told, held, asked in ((value, PAIR, wishes), (failing, plan, (("level", "a", "b"),)),
                                  (endless, still, wishes)):
            self.assertIs(shows_safest(LEVEL, held, asked, told), True)
            for changed in odd_values():
                self.assertIs(shows_safest(LEVEL, held, asked, changed), False)
            for _, changed in with_each_part_changed(told):
                self.assertIs(shows_safest(LEVEL, held, asked, changed), False)
        bound, trees, number, hands = value
        for changed in ((bound, trees), (bound, trees[:1], number, hands), (bound, trees + trees, number, hands),
                        (bound, (FINE,) + trees[1:], number, hands), (bound, (), number, hands), (99, trees),
                        (bound, trees, number, ((0, 0), (60, 4))), (bound, trees, 1, hands), (bound, hands, number)):
            self.assertIs(shows_safest(LEVEL, PAIR, wishes, changed), False)
        for changed in ((99, (FINE,)), (99, (FINE, FINE), 0, ()), (99,), (98, (FINE, FINE)), (99, ()),
                        (99, FINE), (-1, (), 0, ((0, 0), (60, 0)))):
            self.assertIs(shows_safest(LEVEL, still, wishes, changed), False)

    def test_trees_are_by_the_bound_and_hands_by_the_next_one(self):
        book = Book("among eldest\nlevel 1")
        plan = Plan("hand 9\npoint a at 0 0\npoint b by a 60 0")
        wishes = (("apart", "a", "b", 60),)
        bound, trees, number, hands = self.check(book, plan, wishes)
        self.assertEqual((bound, trees, number), (0, (FINE,), 0))
        ring = (("b!", "b", 0), ("b", "b!", -1))
        for tree in (("never", "x", ring), ("ask", "x", "a", "0", -1, FINE, FINE), ("fine", 0), (), ("never", "x", ())):
            self.assertIs(shows_safest(book, plan, wishes, (bound, (tree,), number, hands)), False)
        self.assertIs(shows_safest(book, plan, wishes, (bound, (), number, hands)), False)
        for x, right in ((57, False), (58, False), (59, True), (60, False), (61, False)):
            value = (bound, trees, number, ((0, 0), (x, 0)))
            self.assertIs(shows_safest(book, plan, wishes, value), right)
        # Trees by a greater bound need not be right by this one; and hands of a greater one are not steady.
        wishes = (("level", "a", "b"),)
        bound, trees, number, hands = self.check(LEVEL, PAIR, wishes)
        for y, right in ((3, False), (4, True), (-4, True), (5, False), (-5, False)):
            self.assertIs(shows_safest(LEVEL, PAIR, wishes, (bound, trees, number, ((0, 0), (60, y)))), right)

    def test_deep_values(self):
        wishes = (("level", "a", "b"),)
        value = safest(LEVEL, PAIR, wishes)
        for wrap in (lambda value: (value,), lambda value: [value], lambda value: ("ask", value)):
            deep = nested(value, 50000, wrap)
            for at in range(4):
                self.assertIs(shows_safest(LEVEL, PAIR, wishes, value[:at] + (deep,) + value[at + 1:]), False)
            self.assertIs(shows_safest(LEVEL, PAIR, wishes, value[:1] + ((deep,),) + value[2:]), False)


class Guarantees(RefusingTestCase):
    """Section 3, (b) and (c)."""

    def told(self, book, plan, axis, one, other, wishes):
        """What spread and safest tell, beside hands and trees; None for what has too many cases."""
        try:
            far = spread(book, plan, axis, one, other)[:2]
        except TooMany:
            far = None
        try:
            safe = safest(book, plan, wishes)[0]
        except TooMany:
            safe = None
        return far, safe

    def deal(self, seed, words=("corner", "wall", "level", "straight", "grid")):
        dealt = random.Random(seed)
        for _ in range(30):
            book = deal_book(dealt, words)
            plan = deal_plan(dealt, many=dealt.choice((2, 3, 4)), hand=dealt.randint(1, 2), walls=3, reach=9)
            wishes = tuple(deal_wish(dealt, plan) for _ in range(dealt.randint(1, 2)))
            yield dealt, book, plan, (dealt.choice("xy"),) + tuple(dealt.sample(plan.points, 2)) + (wishes,)

    def test_moved(self):
        for dealt, book, plan, asked in self.deal(207, ("corner", "wall", "level", "straight")):
            told = self.told(book, plan, *asked)
            for x, y in ((dealt.randint(-90, 90), 0), (0, dealt.randint(-90, 90))):
                self.assertEqual(self.told(book, moved(plan, x, y), *asked), told)

    def test_turned(self):
        for _, book, plan, asked in self.deal(208):
            axis, one, other, wishes = asked
            turn = ("y" if axis == "x" else "x", one, other, tuple(turned_wish(wish) for wish in wishes))
            for first, second in zip(self.told(book, plan, *asked), self.told(book, turned(plan), *turn)):
                if first is not None and second is not None:
                    self.assertEqual(first, second)

    def test_steadier(self):
        for _, book, plan, asked in self.deal(209):
            wide, _ = self.told(book, plan, *asked)
            near, _ = self.told(book, plan.by_hand(plan.hand - 1), *asked)
            if wide is not None:
                self.assertTrue(wide[0] <= near[0] <= near[1] <= wide[1])

    def test_what_is_far_is_as_far_by_all_wobbles(self):
        for dealt, book, plan in deal(210, 30, (2, 3)):
            pair = (dealt.choice("xy"),) + tuple(dealt.sample(plan.points, 2))
            low, high, _, _, _ = spread(book, plan, *pair)
            found = {lists.less(plan, *pair, places) for _, places in all_steady(book, plan)}
            self.assertEqual((low, high), (min(found), max(found)))
