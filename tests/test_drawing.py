"""Section 5 (what a click takes) and section 7: drawn, taken and is_steady."""

import itertools
import random
import unittest

from tests.dealt import deal_book, deal_plan
from tests.odd import RefusingTestCase, nested, odd_but, odd_values, with_each_part_changed
from tests.reference import all_steady, draw_all
from wobblesnap.books import Book
from wobblesnap.drawing import drawn, is_steady, taken
from wobblesnap.errors import BadHands
from wobblesnap.plans import Plan

BOOK = Book("among eldest\ncorner 5\nlevel 3")
ROOM = Plan("hand 3\npoint a at 0 0\npoint b by a 60 0\npoint c by b 0 40\npoint d cross a c")
HANDS = ((2, -1), (61, 2), (60, 36), (0, 38))
FREE = (("free",), ("free",))


def clicks(many, *walls):
    """A plan of so many points, a, b, c .., with these walls ahead of the last one; aimed at nothing special."""
    lines = [f"point {name} at 0 0" for name in "abcdef"[:many]]
    return Plan("\n".join(["hand 3"] + lines[:-1] + ["wall " + wall for wall in walls] + lines[-1:]))


class Drawn(unittest.TestCase):
    """What the last one of some clicks comes to."""

    def last(self, rules, hands, *walls, among="eldest"):
        """(place, way for x, way for y) of the last point."""
        book = Book(f"among {among}\n{rules}")
        plan = clicks(len(hands), *walls)
        return drawn(book, plan, hands)[-1], *taken(book, plan, hands)[-1]


class Examples(unittest.TestCase):

    def test_the_examples_of_section_7(self):
        self.assertEqual(
            [drawn(BOOK, ROOM, HANDS), taken(BOOK, ROOM, HANDS)[3], is_steady(BOOK, ROOM, HANDS)],
            [((2, -1), (61, -1), (61, 36), (2, 36)), (("level", "a"), ("level", "c")), True],
        )
        self.assertEqual(drawn(BOOK, ROOM, ((0, 0), (60, 4), (60, 44), (4, 3)))[3], (0, 0))

    def test_all_ways_of_the_example(self):
        self.assertEqual(
            taken(BOOK, ROOM, HANDS),
            (FREE, (("free",), ("level", "a")), (("level", "b"), ("free",)), (("level", "a"), ("level", "c"))),
        )

    def test_arguments_by_name(self):
        self.assertEqual(drawn(hands=HANDS, plan=ROOM, book=BOOK)[1], (61, -1))
        self.assertEqual(taken(hands=HANDS, book=BOOK, plan=ROOM)[0], FREE)
        self.assertIs(is_steady(plan=ROOM, book=BOOK, hands=HANDS), True)


class Kinds(unittest.TestCase):

    def test_kinds(self):
        book = Book("among latest\nwall 2\ngrid 5")
        plan = clicks(3, "a b")
        for hands in (((0, 0), (20, 0), (9, 1)), ((0, 0), (0, 20), (1, 9)), ((-3, 4), (7, 8), (50, -50))):
            places, ways = drawn(book, plan, hands), taken(book, plan, hands)
            self.assertEqual([type(places), type(ways)], [tuple, tuple])
            for place, way in zip(places, ways):
                self.assertEqual([type(place), type(place[0]), type(place[1])], [tuple, int, int])
                self.assertEqual([type(way), type(way[0]), type(way[1])], [tuple, tuple, tuple])
            self.assertIs(type(is_steady(book, plan, hands)), bool)
            self.assertEqual(drawn(book, plan, hands), places)
            self.assertEqual(taken(book, plan, hands), ways)


class Corner(Drawn):

    def test_within_its_number_in_both_axes(self):
        for x, y in itertools.product(range(-5, 6), repeat=2):
            found = self.last("corner 3", ((10, 20), (10 + x, 20 + y)))
            if abs(x) <= 3 and abs(y) <= 3:
                self.assertEqual(found, ((10, 20), ("corner", "a"), ("corner", "a")))
            else:
                self.assertEqual(found, ((10 + x, 20 + y), ("free",), ("free",)))

    def test_bounds_0_and_99(self):
        self.assertEqual(self.last("corner 0", ((4, 4), (4, 4)))[1], ("corner", "a"))
        self.assertEqual(self.last("corner 0", ((4, 4), (4, 5))), ((4, 5),) + FREE)
        self.assertEqual(self.last("corner 99", ((0, 0), (99, -99)))[0], (0, 0))
        self.assertEqual(self.last("corner 99", ((0, 0), (99, -100))), ((99, -100),) + FREE)

    def test_the_first_one_in_sequence_not_the_nearest_one(self):
        hands = ((0, 0), (4, 4), (8, 8), (5, 5))
        self.assertEqual(self.last("corner 5", hands)[:2], ((0, 0), ("corner", "a")))
        self.assertEqual(self.last("corner 5", hands, among="latest")[:2], ((8, 8), ("corner", "c")))
        self.assertEqual(self.last("corner 5", hands[:2] + ((9, 9), (5, 5)), among="latest")[:2],
                         ((9, 9), ("corner", "c")))
        self.assertEqual(self.last("corner 5", hands[:2] + ((9, 9), (3, 3)), among="latest")[:2],
                         ((0, 0), ("corner", "b")))

    def test_what_was_drawn_is_looked_at_not_the_hand(self):
        # b comes to a: so c, that is near the hand of b only, is near neither.
        self.assertEqual(self.last("corner 3", ((0, 0), (3, 3), (5, 5))), ((5, 5),) + FREE)
        self.assertEqual(self.last("corner 3", ((0, 0), (3, 3), (-3, 2)), among="latest")[:2],
                         ((0, 0), ("corner", "b")))

    def test_only_if_both_are_free(self):
        hands = ((0, 0), (3, 50), (2, 1))
        self.assertEqual(self.last("level 2\ncorner 4", hands), ((0, 0), ("level", "a"), ("level", "a")))
        self.assertEqual(self.last("level 1\ncorner 4", ((0, 0), (3, 50), (2, 2))), ((3, 2), ("level", "b"), ("free",)))
        self.assertEqual(self.last("grid 7\ncorner 9", hands), ((0, 0), ("grid",), ("grid",)))


class Walls(Drawn):

    def test_a_level_one(self):
        for x, y in itertools.product(range(-2, 13), range(-4, 5)):
            for hands, wall in (((0, 0), (10, 0)), "a b"), (((10, 0), (0, 0)), "a b"), (((0, 0), (10, 0)), "b a"):
                found = self.last("wall 2", hands + ((x, y),), wall)
                if 0 < x < 10 and abs(y) <= 2:
                    self.assertEqual(found, ((x, 0), ("free",), ("wall",) + tuple(wall.split(" "))))
                else:
                    self.assertEqual(found, ((x, y),) + FREE)

    def test_an_upright_one(self):
        for x, y in itertools.product(range(-4, 5), range(-2, 13)):
            for hands, wall in (((0, 0), (0, 10)), "a b"), (((0, 10), (0, 0)), "a b"), (((0, 0), (0, 10)), "b a"):
                found = self.last("wall 2", hands + ((x, y),), wall)
                if abs(x) <= 2 and 0 < y < 10:
                    self.assertEqual(found, ((0, y), ("wall",) + tuple(wall.split(" ")), ("free",)))
                else:
                    self.assertEqual(found, ((x, y),) + FREE)

    def test_ends_are_excluded(self):
        for x in (0, 10):
            self.assertEqual(self.last("wall 99", ((0, 0), (10, 0), (x, 0)), "a b"), ((x, 0),) + FREE)
            self.assertEqual(self.last("wall 99", ((0, 0), (0, 10), (0, x)), "a b"), ((0, x),) + FREE)
        self.assertEqual(self.last("wall 0", ((0, 0), (2, 0), (1, 0)), "a b")[2], ("wall", "a", "b"))
        self.assertEqual(self.last("wall 0", ((0, 0), (1, 0), (1, 0)), "a b"), ((1, 0),) + FREE)

    def test_bounds_0_and_99(self):
        self.assertEqual(self.last("wall 0", ((0, 0), (9, 0), (5, 0)), "a b")[2], ("wall", "a", "b"))
        self.assertEqual(self.last("wall 0", ((0, 0), (9, 0), (5, 1)), "a b"), ((5, 1),) + FREE)
        self.assertEqual(self.last("wall 99", ((0, 0), (9, 0), (5, -99)), "a b")[0], (5, 0))
        self.assertEqual(self.last("wall 99", ((0, 0), (9, 0), (5, -100)), "a b"), ((5, -100),) + FREE)

    def test_an_aslant_one_never_fits(self):
        for hand in itertools.product(range(-1, 12), repeat=2):
            self.assertEqual(self.last("wall 99", ((0, 0), (10, 1), hand), "a b"), (hand,) + FREE)

    def test_one_whose_ends_are_drawn_at_one_place_never_fits(self):
        for hand in itertools.product(range(-3, 4), repeat=2):
            self.assertEqual(self.last("wall 99", ((0, 0), (0, 0), hand), "a b"), (hand,) + FREE)
        self.assertEqual(self.last("wall 9\ncorner 9", ((0, 0), (4, 4), (1, 1)), "a b")[1], ("corner", "a"))

    def test_the_first_wall_in_sequence(self):
        hands = ((0, 0), (20, 0), (20, 4), (0, 4), (10, 3))
        self.assertEqual(self.last("wall 5", hands, "a b", "c d"), ((10, 0), ("free",), ("wall", "a", "b")))
        self.assertEqual(self.last("wall 5", hands, "c d", "a b"), ((10, 4), ("free",), ("wall", "c", "d")))
        self.assertEqual(self.last("wall 5", hands, "a b", "c d", among="latest")[2], ("wall", "c", "d"))
        self.assertEqual(self.last("wall 5", hands, "c d", "a b", among="latest")[2], ("wall", "a", "b"))
        self.assertEqual(self.last("wall 1", hands, "a b", "c d")[2], ("wall", "c", "d"))

    def test_the_first_wall_may_be_an_upright_one(self):
        hands = ((0, 0), (20, 0), (0, 20), (2, 1))
        self.assertEqual(self.last("wall 3", hands, "a c", "a b"), ((0, 1), ("wall", "a", "c"), ("free",)))
        self.assertEqual(self.last("wall 3", hands, "a b", "a c"), ((2, 0), ("free",), ("wall", "a", "b")))

    def test_a_wall_that_stands_twice(self):
        hands = ((0, 0), (20, 0), (10, 1))
        self.assertEqual(self.last("wall 3", hands, "a b", "a b"), ((10, 0), ("free",), ("wall", "a", "b")))
        self.assertEqual(self.last("wall 3", hands, "a b", "b a")[2], ("wall", "a", "b"))
        self.assertEqual(self.last("wall 3", hands, "a b", "b a", among="latest")[2], ("wall", "b", "a"))

    def test_four_walls(self):
        hands = ((0, 0), (20, 0), (20, 20), (0, 20), (10, 19))
        walls = ("a b", "b c", "c d", "d a")
        self.assertEqual(self.last("wall 3", hands, *walls), ((10, 20), ("free",), ("wall", "c", "d")))
        self.assertEqual(self.last("wall 3", hands[:4] + ((1, 10),), *walls), ((0, 10), ("wall", "d", "a"), ("free",)))

    def test_only_walls_that_stand_above(self):
        plan = Plan("hand 1\npoint a at 0 0\npoint b at 20 0\npoint c at 10 1\nwall a b\npoint d at 11 1")
        book = Book("among eldest\nwall 3")
        hands = ((0, 0), (20, 0), (10, 1), (11, 1))
        self.assertEqual(drawn(book, plan, hands), ((0, 0), (20, 0), (10, 1), (11, 0)))
        self.assertEqual(taken(book, plan, hands)[2:], (FREE, (("free",), ("wall", "a", "b"))))

    def test_a_wall_by_what_was_drawn(self):
        # The hand of b is aslant, but b is drawn level with a.
        book = Book("among eldest\nwall 3\nlevel 2")
        hands = ((0, 0), (20, 2), (10, 3))
        self.assertEqual(drawn(book, clicks(3, "a b"), hands), ((0, 0), (20, 0), (10, 0)))
        self.assertEqual(taken(book, clicks(3, "a b"), hands)[2], (("free",), ("wall", "a", "b")))

    def test_only_if_both_are_free(self):
        hands = ((0, 0), (20, 0), (18, 1))
        self.assertEqual(self.last("level 2\nwall 3", hands, "a b"), ((20, 0), ("level", "b"), ("level", "a")))
        self.assertEqual(self.last("level 0\nwall 3", ((0, 0), (20, 0), (4, 9), (4, 1)), "a b"),
                         ((4, 1), ("level", "c"), ("free",)))

    def test_what_stays_free_is_taken_by_a_later_rule(self):
        hands = ((0, 0), (20, 0), (18, 1))
        self.assertEqual(self.last("wall 3\nlevel 2", hands, "a b"), ((20, 0), ("level", "b"), ("wall", "a", "b")))
        self.assertEqual(self.last("wall 3\ngrid 10", hands, "a b"), ((20, 0), ("grid",), ("wall", "a", "b")))
        self.assertEqual(self.last("wall 3\ncorner 3", hands, "a b"), ((18, 0), ("free",), ("wall", "a", "b")))
        self.assertEqual(self.last("corner 3\nwall 3", hands, "a b"), ((20, 0), ("corner", "b"), ("corner", "b")))


class Level(Drawn):

    def test_each_coordinate_for_itself(self):
        for x, y in itertools.product(range(-4, 5), repeat=2):
            place, for_x, for_y = self.last("level 2", ((10, 20), (10 + x, 20 + y)))
            self.assertEqual(place, (10 if abs(x) <= 2 else 10 + x, 20 if abs(y) <= 2 else 20 + y))
            self.assertEqual(for_x, ("level", "a") if abs(x) <= 2 else ("free",))
            self.assertEqual(for_y, ("level", "a") if abs(y) <= 2 else ("free",))

    def test_of_unlike_points(self):
        hands = ((0, 0), (50, 90), (1, 91))
        self.assertEqual(self.last("level 2", hands), ((0, 90), ("level", "a"), ("level", "b")))

    def test_the_first_one_in_sequence_not_the_nearest_one(self):
        hands = ((0, 0), (3, 90), (6, 200), (4, 300))
        self.assertEqual(self.last("level 5", hands)[:2], ((0, 300), ("level", "a")))
        # b and c become level with a, or with b.
        self.assertEqual(self.last("level 2", hands)[:2], ((3, 300), ("level", "b")))
        self.assertEqual(self.last("level 2", hands, among="latest")[:2], ((6, 300), ("level", "c")))

    def test_bounds_0_and_99(self):
        self.assertEqual(self.last("level 0", ((0, 0), (0, 1))), ((0, 1), ("level", "a"), ("free",)))
        self.assertEqual(self.last("level 99", ((0, 0), (99, 100))), ((0, 100), ("level", "a"), ("free",)))
        self.assertEqual(self.last("level 99", ((0, 0), (-100, -99))), ((-100, 0), ("free",), ("level", "a")))


class Straight(Drawn):

    def test_only_the_point_that_was_drawn_last(self):
        hands = ((0, 0), (50, 90), (1, 91))
        for among in ("eldest", "latest"):
            self.assertEqual(self.last("straight 2", hands, among=among), ((1, 90), ("free",), ("straight", "b")))
            self.assertEqual(self.last("straight 48", hands, among=among)[0], (1, 90))
            self.assertEqual(self.last("straight 49", hands, among=among)[0], (50, 90))

    def test_none_at_the_first_click(self):
        for rules in ("straight 99", "corner 99", "level 99", "wall 99"):
            self.assertEqual(self.last(rules, ((1, 2),)), ((1, 2),) + FREE)
        self.assertEqual(self.last("straight 99\ngrid 10", ((1, 6),)), ((0, 10), ("grid",), ("grid",)))

    def test_bounds_0_and_99(self):
        self.assertEqual(self.last("straight 0", ((0, 0), (0, 1))), ((0, 1), ("straight", "a"), ("free",)))
        self.assertEqual(self.last("straight 99", ((0, 0), (99, -100))), ((0, -100), ("straight", "a"), ("free",)))

    def test_beside_level(self):
        hands = ((0, 0), (4, 90), (3, 200))
        self.assertEqual(self.last("level 3\nstraight 3", hands)[:2], ((0, 200), ("level", "a")))
        self.assertEqual(self.last("straight 3\nlevel 3", hands)[:2], ((4, 200), ("straight", "b")))


class Grid(Drawn):

    def test_the_nearest_multiple(self):
        for step in (2, 3, 4, 5, 10, 98, 99):
            for x in range(-2 * step - 1, 2 * step + 2):
                place, for_x, for_y = self.last(f"grid {step}", ((x, -x),))
                self.assertEqual([for_x, for_y], [("grid",), ("grid",)])
                for hand, number in ((x, place[0]), (-x, place[1])):
                    self.assertEqual(number % step, 0)
                    self.assertLessEqual(2 * abs(hand - number), step)
                    if 2 * abs(hand - number) == step:
                        self.assertGreater(number, hand)

    def test_of_two_that_are_as_near_the_greater_one(self):
        self.assertEqual(self.last("grid 2", ((1, -1),))[0], (2, 0))
        self.assertEqual(self.last("grid 4", ((2, -2),))[0], (4, 0))
        self.assertEqual(self.last("grid 4", ((6, -6),))[0], (8, -4))
        self.assertEqual(self.last("grid 98", ((49, -49),))[0], (98, 0))
        self.assertEqual(self.last("grid 3", ((1, 2),))[0], (0, 3))
        self.assertEqual(self.last("grid 3", ((-1, -2),))[0], (0, -3))

    def test_what_is_free_no_more_stays(self):
        self.assertEqual(self.last("level 2\ngrid 10", ((3, 40), (2, 8))), ((0, 10), ("level", "a"), ("grid",)))
        self.assertEqual(self.last("grid 10\nlevel 2", ((3, 40), (4, 8))), ((0, 10), ("grid",), ("grid",)))


class Steady(unittest.TestCase):

    def steady(self, plan, *hands, book=Book("among eldest\nlevel 0")):
        answer = is_steady(book, Plan(plan), hands)
        self.assertIs(type(answer), bool)
        return answer

    def test_at(self):
        for x, y in itertools.product(range(-4, 5), repeat=2):
            self.assertIs(self.steady("hand 3\npoint a at 7 -8", (7 + x, y - 8)), abs(x) <= 3 and abs(y) <= 3)
            self.assertIs(self.steady("hand 9\npoint a at 7 -8 within 2", (7 + x, y - 8)), abs(x) <= 2 and abs(y) <= 2)

    def test_bounds_0_and_99(self):
        for x, y in itertools.product((-1, 0, 1), repeat=2):
            self.assertIs(self.steady("hand 0\npoint a at 7 8", (7 + x, 8 + y)), x == y == 0)
            self.assertIs(self.steady("hand 9\npoint a at 7 8 within 0", (7 + x, 8 + y)), x == y == 0)
        for x, y in itertools.product((-100, -99, 99, 100), repeat=2):
            for plan in ("hand 99\npoint a at 0 0", "hand 0\npoint a at 0 0 within 99"):
                self.assertIs(self.steady(plan, (x, y)), abs(x) == abs(y) == 99)

    def test_places_at_the_ends(self):
        self.assertIs(self.steady("hand 0\npoint a at 999 -999", (999, -999)), True)
        self.assertIs(self.steady("hand 0\npoint a at 999 -999", (999, 999)), False)
        plan = "hand 1\npoint a at 999 -999\npoint b by a 999 -999\npoint c by b -999 999"
        self.assertIs(self.steady(plan, (999, -999), (1998, -1998), (999, -999)), True)
        self.assertIs(self.steady(plan, (999, -999), (1999, -1999), (1001, -1001)), True)
        self.assertIs(self.steady(plan, (999, -999), (2000, -1998), (999, -999)), False)

    def test_by_is_beside_the_drawn_point(self):
        # b is drawn at the height of a, and c is aimed from there.
        plan = "hand 3\npoint a at 0 0\npoint b at 50 0\npoint c by b 0 40"
        for y, steady in ((36, False), (37, True), (43, True), (44, False)):
            self.assertIs(self.steady(plan, (0, 0), (50, 3), (50, y), book=Book("among eldest\nlevel 3")), steady)
        for y, steady in ((39, False), (40, True), (46, True), (47, False)):
            self.assertIs(self.steady(plan, (0, 0), (50, 3), (50, y)), steady)

    def test_cross(self):
        plan = "hand 1\npoint a at 5 6\npoint b at 70 80\npoint c cross a b"
        for x, y in itertools.product(range(-2, 3), repeat=2):
            self.assertIs(self.steady(plan, (5, 6), (70, 80), (5 + x, 80 + y)), abs(x) <= 1 and abs(y) <= 1)
            self.assertIs(self.steady(plan, (4, 6), (70, 81), (4 + x, 81 + y)), abs(x) <= 1 and abs(y) <= 1)

    def test_cross_of_one_point(self):
        plan = "hand 1\npoint a at 5 6\npoint b cross a a within 0"
        self.assertIs(self.steady(plan, (5, 6), (5, 6)), True)
        self.assertIs(self.steady(plan, (6, 5), (6, 5)), True)
        self.assertIs(self.steady(plan, (6, 5), (5, 6)), False)

    def test_each_one_has_to_be(self):
        plan = "hand 1\npoint a at 0 0\npoint b at 50 50\npoint c at 90 90"
        for off in itertools.product((0, 1, 2), repeat=3):
            hands = ((off[0], 0), (50, 50 + off[1]), (90 - off[2], 90))
            self.assertIs(self.steady(plan, *hands), max(off) <= 1)

    def test_the_room(self):
        self.assertIs(is_steady(BOOK, ROOM, ((0, 0), (60, 4), (60, 44), (4, 3))), False)
        self.assertIs(is_steady(BOOK, ROOM.by_hand(4), ((0, 0), (60, 4), (60, 44), (4, 44))), True)


class BadHandsAreRefused(RefusingTestCase):

    def bad(self, plan, hands):
        with self.subTest(hands=hands):
            for call in (drawn, taken, is_steady):
                self.refuses(BadHands, hands, call, BOOK, plan, hands)
                self.refuses(BadHands, hands, call, book=BOOK, plan=plan, hands=hands)

    def test_odd_values(self):
        for value in odd_values():
            self.bad(ROOM, value)
            self.bad(clicks(1), (value,))
            self.bad(clicks(1), ((value, 0, 0),))
            self.bad(clicks(2), ((0, 0), value))
            if type(value) is not int:
                self.bad(clicks(1), ((0, value),))
                self.bad(clicks(1), ((value, 0),))
                self.bad(clicks(2), ((0, 0), (value, 0)))

    def test_one_part_otherwise(self):
        for path, changed in with_each_part_changed(HANDS):
            if path and len(path) == 2 and type(changed[path[0]]) is tuple and len(changed[path[0]]) == 2 and all(
                    type(number) is int for number in changed[path[0]]):
                continue
            self.bad(ROOM, changed)

    def test_as_many_as_points(self):
        for many in range(1, 7):
            for given in range(8):
                hands = ((1, 1),) * given
                if given == many:
                    self.assertEqual(len(drawn(BOOK, clicks(many), hands)), many)
                else:
                    self.bad(clicks(many), hands)

    def test_no_tuples(self):
        self.bad(clicks(1), [(0, 0)])
        self.bad(clicks(1), ([0, 0],))
        self.bad(clicks(2), {(0, 0): 1, (1, 1): 2})
        self.bad(clicks(2), ((0, 0), "ab"))
        self.bad(clicks(2), "ab")

    def test_a_bool_is_no_integer(self):
        for place in ((True, 0), (0, True), (False, 1), (1, False), (True, True)):
            self.bad(clicks(1), (place,))
            self.bad(clicks(2), ((0, 0), place))

    def test_very_deep_ones(self):
        deep = nested((0, 0), 50000, lambda value: (value,))
        for hands in (deep, (deep,), ((deep, 0),), ((0, deep),)):
            for call in (drawn, taken, is_steady):
                self.refuses(BadHands, hands, call, BOOK, clicks(1), hands)

    def test_right_ones(self):
        for number in (-999999999, -1000, 0, 1, 999999999):
            self.assertEqual(drawn(BOOK, clicks(1), ((number, 0),)), ((number, 0),))

    def test_odd_kinds(self):
        for value in odd_but(tuple):
            self.bad(clicks(1), value)


class ByTheReference(unittest.TestCase):

    def test_any_hands(self):
        dealt = random.Random(51)
        for _ in range(600):
            book = deal_book(dealt)
            plan = deal_plan(dealt, many=dealt.randint(1, 6), hand=dealt.randint(0, 4), walls=4)
            for _ in range(6):
                hands = tuple((dealt.randint(-9, 9), dealt.randint(-9, 9)) for _ in plan.points)
                places, ways, steady = draw_all(book, plan, hands)
                with self.subTest(book=book.text, plan=plan.text, hands=hands):
                    self.assertEqual(drawn(book, plan, hands), places)
                    self.assertEqual(taken(book, plan, hands), ways)
                    self.assertIs(is_steady(book, plan, hands), steady)

    def test_steady_hands(self):
        dealt = random.Random(52)
        for _ in range(60):
            book, plan = deal_book(dealt), deal_plan(dealt, many=2, hand=1, walls=2)
            for hands, places in all_steady(book, plan):
                self.assertEqual(drawn(book, plan, hands), places)
                self.assertIs(is_steady(book, plan, hands), True)
