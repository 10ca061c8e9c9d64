"""Section 9: which answers of sure are right, whoever made them (shows_sure)."""

import itertools
import random
import unittest

from tests.dealt import (
    change_ring, deal_book, deal_change, deal_plan, deal_wish, grow_tree, parts_of, tree_around, with_part,
)
from tests.odd import nested, odd_values, with_each_part_changed
from tests.reference import all_steady, is_kept, is_right
from wobblesnap.books import Book
from wobblesnap.judging import shows_sure, sure
from wobblesnap.plans import Plan

FINE = ("fine",)
LEVEL = Book("among eldest\nlevel 3")
GRID = Book("among eldest\ngrid 10")
# By hands off by four b may miss the height of a, above it or below it.
FOUR = Plan("hand 4\npoint a at 0 0\npoint b by a 60 0")
THREE = FOUR.by_hand(3)
NEAR = ("y", "b", "a", -4, 4)
SAME_HEIGHT = ("level", "a", "b")
# The two questions that the rules ask of b, and a right tree.
MORE = ("y", "b!", "a", 3)
LESS = ("y", "a", "b!", 3)
TREE = ("ask",) + MORE + (("ask",) + LESS + (FINE, FINE), FINE)


class Trees(unittest.TestCase):

    def check(self, right, tree, book=LEVEL, plan=FOUR, wish=NEAR):
        with self.subTest(tree=tree):
            self.assertIs(shows_sure(book, plan, wish, ("sure", tree)), right)
            self.assertIs(is_right(book, plan, wish, tree), right)

    def check_leaf(self, right, answers, leaf, book=LEVEL, plan=THREE, wish=SAME_HEIGHT):
        """Whether a leaf is right behind these answers, ((question, True or False), ..)."""
        self.assertEqual(sure(book, plan, wish)[0], "sure")
        self.check(right, tree_around(book, plan, wish, answers, leaf), book, plan, wish)


class Fine(Trees):

    def test_a_leaf_alone(self):
        self.check(True, FINE, plan=THREE)
        self.check(True, FINE, plan=THREE, wish=SAME_HEIGHT)
        self.check(False, FINE, plan=THREE, wish=("upright", "a", "b"))

    def test_the_going_must_not_stop(self):
        self.check(True, TREE)
        self.check(False, FINE)
        self.check(False, ("ask",) + MORE + (FINE, FINE))
        self.check(False, ("ask",) + LESS + (FINE, FINE))

    def test_the_questions_in_another_sequence(self):
        # Behind no to the second question, the first one is told as yes.
        self.check(True, ("ask",) + LESS + (("ask",) + MORE + (FINE, FINE), FINE))
        self.check(False, ("ask",) + LESS + (FINE, ("ask",) + MORE + (FINE, FINE)))

    def test_yes_and_no_in_each_other_s_place(self):
        self.check(False, ("ask",) + MORE + (FINE, ("ask",) + LESS + (FINE, FINE)))

    def test_questions_by_which_as_much_is_told(self):
        # y of b's hand less that of a is more than 3: so a less it is at most -4.
        self.check(True, ("ask", "y", "a", "b!", -4, FINE, ("ask",) + LESS + (FINE, FINE)))
        self.check(False, ("ask", "y", "a", "b!", -3, FINE, ("ask",) + LESS + (FINE, FINE)))
        self.check(False, ("ask", "y", "a", "b!", -5, FINE, ("ask",) + LESS + (FINE, FINE)))
        # a is drawn where its hand is.
        self.check(True, ("ask", "y", "b!", "a!", 3, ("ask", "y", "a!", "b!", 3, FINE, FINE), FINE))
        # Where b is drawn tells as much only if it stays free.
        self.check(False, ("ask", "y", "b", "a", 3, ("ask", "y", "a", "b", 3, FINE, FINE), FINE))

    def test_the_wish_has_to_be_yes(self):
        for low, high in itertools.product(range(-6, 1), range(0, 7)):
            self.check(low <= -4 and high >= 4, TREE, wish=("y", "b", "a", low, high))
            self.check(low <= -4 and high >= 4, TREE, wish=("y", "a", "b", -high, -low))
        self.check(False, TREE, wish=SAME_HEIGHT)
        self.check(False, TREE, wish=("same", "a", "b"))
        self.check(True, TREE, wish=("apart", "a", "b", 56))
        self.check(False, TREE, wish=("apart", "a", "b", 57))

    def test_apart_is_asked_in_sequence(self):
        plan = Plan("hand 0\npoint a at 0 0\npoint b at 10 40 within 2")
        for one, other in (("a", "b"), ("b", "a")):
            self.check(True, FINE, LEVEL, plan, ("apart", one, other, 8))
            # Whether they are apart in x is neither yes nor no: so the going stops ahead of y.
            for many in (9, 10, 11, 12):
                wish = ("apart", one, other, many)
                self.check(False, FINE, LEVEL, plan, wish)
                self.check(True, ("ask", "x", "b", "a", many - 1, FINE, FINE), LEVEL, plan, wish)
                self.check(False, ("ask", "y", "b", "a", many - 1, FINE, FINE), LEVEL, plan, wish)
            self.check(True, FINE, LEVEL, plan, ("apart", one, other, 13))
            self.check(True, FINE, LEVEL, plan, ("apart", one, other, 38))
            self.check(False, FINE, LEVEL, plan, ("apart", one, other, 39))

    def test_on_is_asked_as_a_wall(self):
        plan = Plan("hand 0\npoint a at 0 0\npoint b at 20 0\npoint c at 10 0 within 2")
        book = Book("among latest\nlevel 3")
        self.check(True, FINE, book, plan, ("on", "c", "a", "b"))
        self.check(True, FINE, book, plan, ("on", "c", "b", "a"))
        self.check(False, FINE, book, plan, ("on", "a", "c", "b"))
        turned = Plan("hand 0\npoint a at 0 0\npoint b at 0 20\npoint c at 0 10 within 2")
        self.check(True, FINE, book, turned, ("on", "c", "a", "b"))
        self.check(True, FINE, book, turned, ("on", "c", "b", "a"))
        self.check(False, FINE, book, turned, ("on", "b", "a", "c"))

    def test_a_multiple_has_to_be_told(self):
        plan, wish = Plan("hand 5\npoint a at 0 0\npoint b at 100 0 within 0"), ("x", "b", "a", 90, 100)
        self.check(False, FINE, GRID, plan, wish)
        self.check(True, FINE, GRID, plan.by_hand(4), ("x", "b", "a", 100, 100))
        for number in range(2, 7):
            inner = ("ask", "y", "0", "a!", -number - 1, FINE, FINE)
            self.check(number == 4, ("ask", "x", "a!", "0", number, inner, inner), GRID, plan, wish)
            inner = ("ask", "y", "a!", "0", 4, FINE, FINE)
            self.check(number == 4, ("ask", "x", "0", "a!", -number - 1, inner, inner), GRID, plan, wish)

    def test_answers_that_cannot_be(self):
        for question in (("x", "a", "0", -5), ("x", "a!", "0", -4), ("y", "b", "a", -1), ("y", "b!", "a", -9)):
            self.check_leaf(False, ((question, True),), FINE)
        for question in (("x", "a", "0", -2), ("x", "a!", "0", -2), ("y", "b", "a", 0), ("y", "b!", "a", 2)):
            self.check_leaf(True, ((question, True),), FINE)

    def test_answers_that_cannot_be_though_they_tell_the_wish(self):
        told = (("y", "a", "b", 0), True), (("y", "b", "a", 0), True)
        self.check_leaf(True, told, FINE)
        contrary = (("x", "b", "a", -1), True), (("x", "b", "a", -1), False)
        self.check_leaf(False, told + contrary, FINE)
        self.check_leaf(False, contrary + told, FINE)
        self.check_leaf(False, told + ((("x", "a!", "0", -4), True),), FINE)
        self.check_leaf(False, told + ((("x", "b", "b!", -1), True),), FINE)

    def test_the_least_one_of_several_answers_counts(self):
        # b less a is at most 9 in y, at most 3, at most 5 ..: the second one is what tells that b is level with a.
        for numbers in itertools.permutations((9, 3, 5, 4)):
            answers = tuple((MORE[:3] + (number,), True) for number in numbers)
            self.check_leaf(True, answers + ((LESS, True),), FINE, plan=FOUR, wish=NEAR)
        for numbers in itertools.permutations((9, 4, 5, 7)):
            answers = tuple((MORE[:3] + (number,), True) for number in numbers)
            self.check_leaf(False, answers + ((LESS, True),), FINE, plan=FOUR, wish=NEAR)


class Rings(Trees):
    """Leaves behind answers by which nothing can be."""

    A_FAR = (("x", "a", "0", -5), True)
    RING = (("a", "0", -5), ("0", "a!", 3), ("a!", "a", 0))

    def check_ring(self, right, ring, *answers, axis="x", **told):
        self.check_leaf(right, answers or (self.A_FAR,), ("never", axis, ring), **told)

    def test_wherever_it_begins(self):
        for at in range(3):
            self.check_ring(True, self.RING[at:] + self.RING[:at])

    def test_bounds_may_stand_in_it_more_than_once(self):
        self.check_ring(True, self.RING * 2)
        self.check_ring(True, self.RING * 30)
        around = (("0", "a!", 3), ("a!", "0", 3))
        far = (("x", "a", "0", -20), True)
        for many, right in ((0, True), (1, True), (2, True), (3, False)):
            self.check_ring(right, (("a", "0", -20),) + around * many + self.RING[1:], far)

    def test_what_is_no_ring(self):
        one, two, three = self.RING
        for ring in ((), (one,), (one, two), (two, three), (two, one, three), (three, two, one), (one, two, three, one),
                     (one, one, two, three), (one, three, two), list(self.RING), (list(one), two, three),
                     {one: 1, two: 2, three: 3}, None, "ring", 5, True, one, ("ring", self.RING), (self.RING,)):
            self.check_ring(False, ring)

    def test_its_sum_is_below_0(self):
        for number in range(-6, 0):
            ring = (("a", "0", number),) + self.RING[1:]
            self.check_ring(number < -3, ring, (("x", "a", "0", number), True))
        self.check_ring(False, (("0", "a!", 3), ("a!", "0", 3)))
        self.check_ring(False, (("a", "a!", 0), ("a!", "a", 0)))

    def test_answers_by_no(self):
        for number in range(1, 6):
            ring = (("0", "a", -number - 1), ("a", "a!", 0), ("a!", "0", 3))
            self.check_ring(number >= 3, ring, (("x", "a", "0", number), False))

    def test_bounds_that_are_not_put(self):
        one, two, three = self.RING
        for ring in (
            (("a", "0", -6), two, three), (("a", "0", -4), two, three), (one, ("0", "a!", 2), three),
            (one, ("0", "a!", 4), three), (one, two, ("a!", "a", -1)), (one, ("0", "a", 3)), (one, ("0", "a", 4)),
            (("a!", "0", -5), two), (("b", "0", -5), ("0", "b", 3)), (("0", "a", -5), ("a", "0", 3)),
            (("q", "0", -5), ("0", "q", 3)), (("a", "A", -5), ("A", "a", 3)), (("0", "a", 3), ("a", "0", -5)),
            (("a", "a", -1),), (("0", "0", -1),), (("a!", "a!", -5),), (("", "", -1),),
        ):
            self.check_ring(False, ring)

    def test_a_bool_is_no_integer(self):
        self.check_ring(True, self.RING)
        self.check_ring(False, self.RING[:2] + (("a!", "a", False),))
        answer = (("x", "a!", "a", 1), True)
        self.check_ring(True, self.RING[:2] + (("a!", "a", 1),), self.A_FAR, answer)
        self.check_ring(False, self.RING[:2] + (("a!", "a", True),), self.A_FAR, answer)
        # Behind the bounds of the hand the going stops: so a is not drawn.
        self.check_ring(False, self.RING, self.A_FAR, answer)

    def test_its_axis(self):
        self.check_ring(True, self.RING, (("y", "a", "0", -5), True), axis="y")
        self.check_ring(False, self.RING, (("y", "a", "0", -5), True), axis="x")
        self.check_ring(False, self.RING, axis="y")
        for axis in ("z", "X", "", "xy", 0, None, True, ("x",), ["x"], {"x": 1}, LEVEL, THREE):
            self.check_ring(False, self.RING, axis=axis)

    def test_where_something_can_be(self):
        self.check_ring(False, (("a", "0", 2),) + self.RING[1:], (("x", "a", "0", 2), True))
        self.check(False, ("never", "x", (("a!", "0", 3), ("0", "a!", 3))), plan=THREE, wish=SAME_HEIGHT)

    def test_bounds_of_a_hand(self):
        plan = Plan("hand 3\npoint a at -7 5 within 2\npoint b by a 60 -9\npoint c cross b a within 0")
        for question, ring in (
            (("x", "a!", "0", -10), (("a!", "0", -10), ("0", "a!", 9))),
            (("x", "0", "a!", 4), (("0", "a!", 4), ("a!", "0", -5))),
            (("y", "a!", "0", 2), (("a!", "0", 2), ("0", "a!", -3))),
            (("y", "0", "a!", -8), (("0", "a!", -8), ("a!", "0", 7))),
            (("x", "b!", "a", 56), (("b!", "a", 56), ("a", "b!", -57))),
            (("x", "a", "b!", -64), (("a", "b!", -64), ("b!", "a", 63))),
            (("y", "b!", "a", -13), (("b!", "a", -13), ("a", "b!", 12))),
            (("y", "a", "b!", 5), (("a", "b!", 5), ("b!", "a", -6))),
            (("x", "c!", "b", -1), (("c!", "b", -1), ("b", "c!", 0))),
            (("x", "b", "c!", -1), (("b", "c!", -1), ("c!", "b", 0))),
            (("y", "c!", "a", -1), (("c!", "a", -1), ("a", "c!", 0))),
            (("y", "a", "c!", -1), (("a", "c!", -1), ("c!", "a", 0))),
        ):
            book = Book("among eldest\nlevel 0")
            wish = ("upright", "b", "c")
            self.check_ring(True, ring, (question, True), axis=question[0], book=book, plan=plan, wish=wish)
            for step in (0, 1):
                one, other, most = ring[step]
                changed = ring[:step] + ((one, other, most - 1),) + ring[step + 1:]
                self.check_ring(False, changed, (question, True), axis=question[0], book=book, plan=plan, wish=wish)

    def test_bounds_of_what_is_taken(self):
        book = Book("among eldest\ncorner 3\nwall 4\nlevel 2\nstraight 9\ngrid 5")
        plan = Plan("hand 0\npoint a at 2 -3\npoint b at 40 -6 within 1\npoint c at 38 -4\nwall a c\npoint d at 20 -1\n"
                    "point e at 300 0\npoint f at 293 108")
        # a comes to the grid; b is level with a by straight, c at the corner of b, and d on the wall.
        for axis, name, term, number in (
            ("x", "a", "0", 0), ("y", "a", "0", -5), ("x", "b", "0", 40), ("y", "b", "a", 0), ("x", "c", "b", 0),
            ("y", "c", "b", 0), ("y", "d", "a", 0), ("x", "d", "0", 20), ("x", "f", "e", 0), ("y", "f", "0", 110),
        ):
            for one, other, most in ((name, term, number - 1), (term, name, -number - 1)):
                question = (axis, one, other, most)
                ring = ((one, other, most), (other, one, -most - 1))
                self.check_ring(True, ring, (question, True), axis=axis, book=book, plan=plan, wish=("same", "b", "c"))
        ring = (("d!", "d", -1), ("d", "d!", 0))
        for axis in ("x", "y"):
            # Neither coordinate of d stayed free: so none is that of its hand.
            self.check_ring(False, ring, ((axis, "d!", "d", -1), True), axis=axis, book=book, plan=plan,
                            wish=("same", "b", "c"))


class BoundsThatTellNothingMore(Trees):
    """Rings may have them, too."""

    def test_answers(self):
        answers = tuple((("x", "a", "0", number), True) for number in (-4, -6, -5, -4, -9))
        for number in range(-10, 0):
            ring = (("a", "0", number), ("0", "a!", 3), ("a!", "a", 0))
            self.check_leaf(number in (-4, -5, -6, -9), answers, ("never", "x", ring))

    def test_bounds_of_a_hand(self):
        answers = ((("x", "0", "a!", 1), True), (("x", "a", "0", -5), True))
        for number in range(0, 5):
            ring = (("a", "0", -5), ("0", "a!", number), ("a!", "a", 0))
            self.check_leaf(number in (1, 3), answers, ("never", "x", ring))

    def test_bounds_of_what_is_taken(self):
        answers = ((("x", "a!", "a", -1), True),)
        self.check_leaf(True, answers, ("never", "x", (("a!", "a", -1), ("a", "a!", 0))))
        # The answers go well with the hand, though not with where a is drawn.
        answers = ((("x", "a", "0", -7), True), (("x", "a!", "a", 4), True), (("x", "0", "a!", 3), True))
        for number in range(-1, 6):
            ring = (("a", "0", -7), ("0", "a!", 3), ("a!", "a", number))
            self.check_leaf(number == 0, answers, ("never", "x", ring))


class WhereTheGoingStops(Trees):
    """Bounds that are put behind where the going stops are none of it."""

    # In y: of what is drawn for a, of its hand, of what is drawn for b, and of its hand.
    DRAWN_A = (("y", "a", "0", -5), True), (("a", "0", -5), ("0", "a!", 3), ("a!", "a", 0))
    HAND_A = (("y", "a!", "0", -4), True), (("a!", "0", -4), ("0", "a!", 3))
    DRAWN_B = (("y", "b", "a", -1), True), (("b", "a", -1), ("a", "b", 0))
    HAND_B = (("y", "b!", "a", -4), True), (("b!", "a", -4), ("a", "b!", 3))

    def check_rings(self, rights, *answers):
        for (answer, ring), right in zip((self.HAND_A, self.DRAWN_A, self.HAND_B, self.DRAWN_B), rights):
            self.check_leaf(right, answers + (answer,), ("never", "y", ring))
            self.check_leaf(right, (answer,) + answers, ("never", "y", ring))

    def test_where_it_does_not(self):
        self.check_rings((True, True, True, True))
        self.check_rings((True, True, True, True), (("x", "a", "0", 0), True), (("x", "b", "b!", 7), True))

    def test_behind_all_answers(self):
        contrary = (("x", "b", "a", -1), True), (("x", "b", "a", -1), False)
        self.check_rings((False, False, False, False), *contrary)
        self.check_leaf(True, contrary, ("never", "x", (("b", "a", -1), ("a", "b", 0))))
        # What the answers themselves tell in y is put as well.
        other = (("y", "a", "0", 5), True), (("y", "a", "0", 4), False), (("y", "0", "a", -6), True)
        for answers in (contrary + other, other + contrary):
            self.check_leaf(True, answers, ("never", "y", (("a", "0", 5), ("0", "a", -6))))
            self.check_leaf(False, answers, ("never", "y", (("a", "0", 4), ("0", "a", -5))))
            self.check_leaf(True, answers, ("never", "x", (("b", "a", -1), ("a", "b", 0))))

    def test_behind_the_bounds_of_a_hand(self):
        self.check_rings((True, False, False, False), (("x", "a!", "0", -4), True))
        self.check_rings((True, True, True, False), (("x", "b!", "a", 56), True))

    def test_behind_the_bounds_of_a_point(self):
        self.check_rings((True, True, False, False), (("x", "a", "0", -5), True))
        self.check_rings((True, True, True, True), (("x", "b", "a", 56), True))

    def test_at_a_comparison(self):
        # Whether b is level with a is neither: so it is not drawn, and no later point comes.
        plan = Plan("hand 4\npoint a at 0 0\npoint b by a 60 0\npoint c by b 0 60")
        far = (("b", "0", -90), ("0", "a!", 4), ("a!", "a", 0), ("a", "b!", -56), ("b!", "b", 0))
        later = (("c!", "b", -5), ("b", "c!", 4))
        hand = (("b!", "a", 55), ("a", "b!", -56))
        answers = (("x", "b", "0", -90), True), (("x", "c!", "b", -5), True), (("x", "b!", "a", 55), True)
        for told, rights in (
            ((), (False, False, True)), (((MORE, True),), (False, False, True)),
            (((MORE, False),), (True, True, True)), (((LESS, False),), (True, True, True)),
            (((MORE, True), (LESS, True)), (True, True, True)), (((MORE, True), (LESS, False)), (True, True, True)),
        ):
            for answer, ring, right in zip(answers, (far, later, hand), rights):
                self.check_leaf(right, told + (answer,), ("never", "x", ring), plan=plan, wish=NEAR)

    def test_at_a_comparison_behind_what_was_taken(self):
        # x of b is taken; then it is neither yes nor no whether y is near.
        plan, wish = Plan("hand 3\npoint a at 0 0\npoint b by a 0 5"), ("upright", "a", "b")
        ring = (("b", "a", -1), ("a", "b", 0))
        answers = ((("x", "b", "a", -1), True),)
        self.check_leaf(True, answers, ("never", "x", ring), plan=plan, wish=wish)
        ring = (("b", "a", -9), ("a", "b!", -2), ("b!", "b", 0))
        answers = ((("y", "b", "a", -9), True),)
        self.check_leaf(False, answers, ("never", "y", ring), plan=plan, wish=wish)
        self.check_leaf(True, answers + ((MORE, False),), ("never", "y", ring), plan=plan, wish=wish)
        ring = (("b", "a", -9), ("a", "b", 0))
        self.check_leaf(True, answers + ((MORE, True),), ("never", "y", ring), plan=plan, wish=wish)

    def test_at_a_multiple(self):
        plan, wish = Plan("hand 3\npoint a at 0 5\npoint b at 100 50"), ("x", "a", "b", -100, -100)
        first = (("x", "a", "0", -1), True), ("never", "x", (("a", "0", -1), ("0", "a", 0)))
        later = (("x", "b!", "0", 96), True), ("never", "x", (("b!", "0", 96), ("0", "b!", -97)))
        for told, rights in (((), (True, False)), (((("y", "a!", "0", 4), True),), (True, True)),
                             (((("y", "a!", "0", 5), True),), (True, False)),
                             (((("y", "a!", "0", 4), False),), (True, True))):
            for (answer, leaf), right in zip((first, later), rights):
                self.check_leaf(right, told + (answer,), leaf, GRID, plan, wish)

    def test_at_a_comparison_of_a_wall(self):
        plan = Plan("hand 1\npoint a at 0 0\npoint b at 40 0\nwall a b\npoint c by a 20 90")
        book, wish = Book("among eldest\nwall 5\nlevel 0"), ("x", "c", "a", 19, 21)
        ring = (("c", "a", 5), ("a", "c!", -19), ("c!", "c", 0))
        answer = (("x", "c", "a", 5), True)
        # First it is asked whether b, then whether c is where a is; only then whether the wall is level.
        for told, right in (
            ((), False), (((("y", "b!", "a", 0), False),), True), (((("y", "b!", "a", -1), True),), True),
            (((("y", "b!", "a", 0), True),), False),
            (((("y", "b!", "a", 0), True), (("y", "a", "b!", 0), True)), True),
        ):
            self.check_leaf(right, told + (answer,), ("never", "x", ring), book, plan, wish)


class Needless(Trees):

    def test_a_needless_question_is_no_fault(self):
        for question in (("x", "a", "0", 0), ("x", "a!", "b", -61), ("y", "0", "b!", 2), ("y", "a", "a!", 0),
                         ("x", "b!", "b", 0), ("y", "b", "b!", -1), ("x", "a", "b", -999999999)):
            for answer in (True, False):
                tree = grow_tree(None, LEVEL, FOUR, NEAR, 0, ((question, answer),))
                other = grow_tree(None, LEVEL, FOUR, NEAR, 0, ((question, not answer),))
                self.check(True, ("ask",) + question + ((tree, other) if answer else (other, tree)))

    def test_what_was_asked_already(self):
        no = ("never", "y", (("b!", "a", 3), ("a", "b!", -4)))
        self.check(True, ("ask",) + MORE + (("ask",) + MORE + (TREE[5], no), FINE))
        self.check(True, ("ask",) + MORE + (TREE[5], ("ask",) + MORE + (no, FINE)))
        self.check(False, ("ask",) + MORE + (("ask",) + MORE + (TREE[5], FINE), FINE))
        self.check(False, ("ask",) + MORE + (("ask",) + MORE + (TREE[5], TREE[5]), FINE))

    def test_what_is_asked_behind_both_answers(self):
        leaf = ("never", "x", (("a", "0", -5), ("0", "a!", 3), ("a!", "a", 0)))
        part = ("ask", "x", "a", "0", -5, leaf, FINE)
        both = ("ask", "y", "a", "0", 0, part, part)
        self.check(True, both, plan=THREE, wish=SAME_HEIGHT)
        self.check(True, ("ask", "x", "b", "a", 60, both, both), plan=THREE, wish=SAME_HEIGHT)
        # An answer counts only for what stands behind it.
        self.check(False, ("ask", "y", "a", "0", 0, part, leaf), plan=THREE, wish=SAME_HEIGHT)
        self.check(False, ("ask", "y", "a", "0", 0, leaf, part), plan=THREE, wish=SAME_HEIGHT)
        self.check(False, part[:6] + (leaf,), plan=THREE, wish=SAME_HEIGHT)

    def test_terms_of_later_points_and_of_hands(self):
        terms = ["0", "a", "a!", "b", "b!"]
        for one, other in itertools.permutations(terms, 2):
            for axis in ("x", "y"):
                question = (axis, one, other, 1)
                tree = tree_around(LEVEL, FOUR, NEAR, ((question, True),), grow_tree(
                    None, LEVEL, FOUR, NEAR, 0, ((question, True),)))
                self.check(True, tree)


class WrongForms(Trees):

    def not_shown(self, value, book=LEVEL, plan=FOUR, wish=NEAR):
        with self.subTest(value=value):
            self.assertIs(shows_sure(book, plan, wish, value), False)

    def test_odd_values(self):
        for value in odd_values():
            self.not_shown(value)
            self.not_shown(("sure", value))
            self.not_shown(("fails", value))
            self.not_shown((value, TREE))
            self.not_shown(("sure", TREE, value))
            self.not_shown(("sure", ("never", value, ())))
            self.not_shown(("sure", ("never", "y", value)))
            self.not_shown(("sure", ("never", "y", (value,))))
            self.not_shown(("sure", (value,)))
            self.not_shown(("sure", ("fine", value)))
            for at in range(7):
                if (at, value) not in ((3, "a"), (3, "a!")):
                    self.not_shown(("sure", TREE[:at] + (value,) + TREE[at + 1:]))

    def test_each_part_otherwise(self):
        right = 0
        for path, changed in with_each_part_changed(("sure", TREE)):
            expected = (type(changed) is tuple and len(changed) == 2 and changed[0] == "sure"
                        and is_right(LEVEL, FOUR, NEAR, changed[1]))
            right += expected
            with self.subTest(changed=changed):
                self.assertIs(shows_sure(LEVEL, FOUR, NEAR, changed), expected)
        self.assertEqual(right, 0)

    def test_each_part_of_a_needless_question_otherwise(self):
        ring = (("0", "a", -5), ("a", "a!", 0), ("a!", "0", 4))
        tree = ("ask", "x", "a", "0", 4, TREE, ("never", "x", ring))
        self.check(True, tree)
        for path, changed in with_each_part_changed(tree):
            with self.subTest(changed=changed):
                self.assertIs(shows_sure(LEVEL, FOUR, NEAR, ("sure", changed)), is_right(LEVEL, FOUR, NEAR, changed))

    def test_kinds(self):
        for kind in ("Sure", "sure ", "", "fine", "ask", "never", "fail", None, 0, True, ("sure",), ["sure"]):
            self.not_shown((kind, TREE))
        self.not_shown(("fails", TREE))
        self.not_shown(["sure", TREE])
        self.not_shown(("sure",))
        self.not_shown(("sure", TREE, TREE))
        self.not_shown(TREE)
        self.not_shown(("sure", ("sure", TREE)))
        self.not_shown(("sure", list(TREE)))
        self.not_shown(("sure", ["fine"]), plan=THREE)
        self.not_shown(("sure", "fine"), plan=THREE)
        self.not_shown(("sure", ()), plan=THREE)
        self.not_shown(("sure", ("Fine",)), plan=THREE)
        self.not_shown(("sure", ("fine", ())), plan=THREE)

    def test_terms(self):
        for term in ("c", "c!", "A", "a!!", "!", "", "0!", "00", "1", "a ", " a", "x", "y", "hand", None, 0, ("a",)):
            no = ("never", "x", (("0", "a", -5), ("a", "a!", 0), ("a!", "0", 4)))
            self.check(False, ("ask", "x", term, "0", 4, TREE, no))
            self.check(False, ("ask", "x", "a", term, 4, TREE, no))
            self.check(False, ("ask", "x", term, "a", 4, TREE, TREE))
        for term in ("0", "a", "a!", "b", "b!"):
            self.check(False, ("ask", "x", term, term, 4, TREE, TREE))
            self.check(False, ("ask", "x", term, term, 4, TREE, ("never", "x", ((term, term, -5),))))

    def test_a_bool_for_a_number(self):
        plan = Plan("hand 1\npoint a at 0 0\npoint b by a 60 0")
        for number in (0, 1, -1):
            tree = tree_around(LEVEL, plan, SAME_HEIGHT, ((("x", "a", "0", number), True),), FINE)
            self.check(True, tree, plan=plan, wish=SAME_HEIGHT)
            if number != -1:
                self.check(False, tree[:4] + (bool(number),) + tree[5:], plan=plan, wish=SAME_HEIGHT)


class Fails(Trees):

    def test_all_hands_around(self):
        book, plan = Book("among eldest\nlevel 1"), Plan("hand 1\npoint a at 0 0\npoint b by a 2 0")
        steady = {hands: places for hands, places in all_steady(book, plan)}
        for wish in (("upright", "a", "b"), ("level", "a", "b"), ("x", "b", "a", 1, 2), ("apart", "a", "b", 2)):
            for numbers in itertools.product(range(-2, 3), range(-1, 2), range(-1, 5), range(-2, 3)):
                hands = (numbers[:2], numbers[2:])
                right = hands in steady and not is_kept(plan, wish, steady[hands])
                self.assertIs(shows_sure(book, plan, wish, ("fails", hands)), right)

    def test_each_part_otherwise(self):
        hands = ((0, 0), (60, 4))
        self.assertIs(shows_sure(LEVEL, FOUR, SAME_HEIGHT, ("fails", hands)), True)
        for path, changed in with_each_part_changed(hands):
            with self.subTest(changed=changed):
                # No part is put in the place of one of its own kind: so these are no hands any more.
                self.assertIs(shows_sure(LEVEL, FOUR, SAME_HEIGHT, ("fails", changed)), False)

    def test_wrong_forms(self):
        for value in (
            ("fails", ((0, 0), (60, True))), ("fails", ((False, 0), (60, 4))), ("fails", [(0, 0), (60, 4)]),
            ("fails", ((0, 0), [60, 4])), ("fails", ((0, 0),)), ("fails", ((0, 0), (60, 4), (0, 0))),
            ["fails", ((0, 0), (60, 4))], ("fails", (0, 0), (60, 4)), ("sure", ((0, 0), (60, 4))), ("fails", FINE),
            ("fails",), ("fails", ()), ("fails", None), ("fails", (("0", "0"), (60, 4))), ((0, 0), (60, 4)),
            ("Fails", ((0, 0), (60, 4))), ("fails", ("fails", ((0, 0), (60, 4)))),
        ):
            with self.subTest(value=value):
                self.assertIs(shows_sure(LEVEL, FOUR, SAME_HEIGHT, value), False)

    def test_hands_that_keep_the_wish_or_are_not_steady(self):
        for y in range(-9, 10):
            told = ("fails", ((0, 0), (60, y)))
            self.assertIs(shows_sure(LEVEL, FOUR, SAME_HEIGHT, told), abs(y) == 4)
            self.assertIs(shows_sure(LEVEL, THREE, SAME_HEIGHT, told), False)
            self.assertIs(shows_sure(LEVEL, FOUR.by_hand(6), SAME_HEIGHT, told), 4 <= abs(y) <= 6)


class VeryGreatTrees(Trees):

    def shown(self, value):
        return shows_sure(LEVEL, THREE, SAME_HEIGHT, value)

    def test_many_needless_questions_behind_yes(self):
        tree = FINE
        for number in range(4, 3004):
            ring = (("0", "a", -number - 1), ("a", "a!", 0), ("a!", "0", 3))
            tree = ("ask", "x", "a", "0", number, tree, ("never", "x", ring))
        self.assertIs(self.shown(("sure", tree)), True)
        self.assertIs(self.shown(("sure", ("ask", "x", "a", "0", 3, tree, FINE))), False)

    def test_many_needless_questions_behind_no(self):
        tree = FINE
        for number in range(-4, -3004, -1):
            tree = ("ask", "x", "a", "0", number, ("never", "x", (("a", "0", number), ("0", "a!", 3), ("a!", "a", 0))),
                    tree)
        self.assertIs(self.shown(("sure", tree)), True)

    def test_the_same_question_very_often(self):
        no = ("never", "x", (("0", "a", -1), ("a", "0", 0)))
        tree = FINE
        for _ in range(20000):
            tree = ("ask", "x", "a", "0", 0, tree, no)
        self.assertIs(self.shown(("sure", ("ask", "x", "a", "0", 0, tree, FINE))), True)
        self.assertIs(self.shown(("sure", ("ask", "x", "a", "0", 0, tree, tree))), False)

    def test_wrong_ones_deep_within(self):
        for wrong in (None, (), ["fine"], ("never", "x", ()), ("ask",), 5):
            tree = wrong
            for _ in range(50000):
                tree = ("ask", "x", "a", "0", 0, tree, FINE)
            self.assertIs(self.shown(("sure", tree)), False)

    def test_very_deep_values(self):
        for wrap in (lambda value: (value,), lambda value: [value], lambda value: {"a": value},
                     lambda value: ("sure", value), lambda value: ("never", "x", value), lambda value: ("fine", value)):
            deep = nested(FINE, 50000, wrap)
            for value in (
                deep, ("sure", deep), ("fails", deep), (deep, FINE), (deep, deep), ("sure", ("never", "x", deep)),
                ("sure", ("never", deep, ())), ("sure", ("never", "x", (deep,))), ("fails", (deep, deep)),
                ("sure", ("never", "x", ((deep, "a", 1), ("a", deep, -2)))), ("sure", (deep,)),
                ("sure", ("never", "x", (("a", "0", deep), ("0", "a", deep)))), ("fails", ((deep, 0), (0, deep))),
                ("sure", ("ask", deep, "a", "0", 0, FINE, FINE)), ("sure", ("ask", "x", deep, "0", 0, FINE, FINE)),
                ("sure", ("ask", "x", "a", deep, 0, FINE, FINE)), ("sure", ("ask", "x", "a", "0", deep, FINE, FINE)),
                ("sure", ("ask", "x", "a", "0", 0, deep, FINE)), ("sure", ("ask", "x", "a", "0", 0, FINE, deep)),
            ):
                self.assertIs(self.shown(value), False)

    def test_a_very_long_ring(self):
        ring = (("a", "0", -5), ("0", "a!", 3), ("a!", "a", 0)) * 50000
        tree = ("ask", "x", "a", "0", -5, ("never", "x", ring), FINE)
        self.assertIs(self.shown(("sure", tree)), True)
        tree = ("ask", "x", "a", "0", -5, ("never", "x", ring + ring[:1]), FINE)
        self.assertIs(self.shown(("sure", tree)), False)

    def test_a_right_answer_within_others(self):
        value = ("sure", FINE)
        for _ in range(300):
            self.assertIs(self.shown(value), value == ("sure", FINE))
            value = ("sure", value)


class ByTheReference(Trees):

    def deal(self, seed, many, sizes=(2, 2, 3)):
        dealt = random.Random(seed)
        for _ in range(many):
            book = deal_book(dealt)
            points = dealt.choice(sizes)
            hand = dealt.choice((0, 1)) if points == 3 else dealt.randint(0, 2)
            plan = deal_plan(dealt, many=points, hand=hand, walls=3)
            yield dealt, book, plan, deal_wish(dealt, plan)

    def test_trees_of_other_hands(self):
        found = {True: 0, False: 0}
        for dealt, book, plan, wish in self.deal(101, 250):
            fails = not all(is_kept(plan, wish, places) for _, places in all_steady(book, plan))
            tree = grow_tree(dealt, book, plan, wish, dealt.randint(0, 3))
            right = is_right(book, plan, wish, tree)
            self.assertIs(right, not fails)
            self.assertIs(shows_sure(book, plan, wish, ("sure", tree)), right)
            found[right] += 1
        self.assertGreater(min(found.values()), 50)

    def test_one_part_otherwise(self):
        found = {True: 0, False: 0}
        for dealt, book, plan, wish in self.deal(102, 150):
            if sure(book, plan, wish)[0] == "fails":
                continue
            for tree in (sure(book, plan, wish)[1], grow_tree(dealt, book, plan, wish, 2)):
                for _ in range(8):
                    changed = deal_change(dealt, book, plan, wish, tree)
                    right = is_right(book, plan, wish, changed)
                    found[right] += 1
                    with self.subTest(book=book.text, plan=plan.text, wish=wish, changed=changed):
                        self.assertIs(shows_sure(book, plan, wish, ("sure", changed)), right)
        self.assertGreater(min(found.values()), 100)

    def test_rings_otherwise(self):
        found = {True: 0, False: 0}
        for dealt, book, plan, wish in self.deal(103, 400):
            tree = grow_tree(dealt, book, plan, wish, 3)
            for path, part in parts_of(tree):
                if part[0] == "never":
                    changed = with_part(tree, path, part[:2] + (change_ring(dealt, part[2]),))
                    right = is_right(book, plan, wish, changed)
                    found[right] += 1
                    self.assertIs(shows_sure(book, plan, wish, ("sure", changed)), right)
                    if sum(found.values()) > 1500:
                        return
        self.assertGreater(min(found.values()), 100)

    def test_no_tree_is_right_where_the_wish_fails(self):
        for dealt, book, plan, wish in self.deal(104, 150):
            if sure(book, plan, wish)[0] == "fails":
                tree = grow_tree(dealt, book, plan, wish, 1)
                for _ in range(4):
                    self.assertIs(shows_sure(book, plan, wish, ("sure", tree)), False)
                    tree = deal_change(dealt, book, plan, wish, tree)
