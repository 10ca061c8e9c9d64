"""Section 11: on what two books part, and which answers of alike are right."""

import random

from tests import lists
from tests.dealt import deal_book, deal_change, deal_plan, grow_tree, tree_around
from tests.odd import RefusingTestCase, nested, odd_values, with_each_part_changed, with_each_part_moved
from tests.reference import is_right
from tests.test_judging import ABOVE_400, BOOK, JUST_400, ROOM
from wobblesnap.beside import alike, shows_alike
from wobblesnap.books import Book
from wobblesnap.drawing import drawn, is_steady
from wobblesnap.errors import TooMany
from wobblesnap.judging import cases
from wobblesnap.plans import Plan

FINE = ("fine",)
ELDEST = Book("among eldest\nlevel 3")
LATEST = Book("among latest\nlevel 3")
STEPS = Plan("hand 0\npoint a at 0 0\npoint b by a 5 50\npoint c by a 3 100")
PAIR = Plan("hand 4\npoint a at 0 0\npoint b by a 60 0")


def book_of(*lines, among="eldest"):
    return Book("\n".join((f"among {among}",) + lines))


def near_book(dealt, book):
    """The book with one thing otherwise: its sequence, one number, or the place of two rules."""
    lines = book.text.split("\n")
    change = dealt.choice(("among", "number", "rules"))
    if change == "among":
        lines[0] = {"among eldest": "among latest", "among latest": "among eldest"}[lines[0]]
    elif change == "number":
        at = dealt.randrange(1, len(lines))
        word, number = lines[at].split(" ")
        lines[at] = f"{word} {int(number) + 1}"
    else:
        lines[1:] = lines[:0:-1]
    return Book("\n".join(lines))


def deal(seed, many, sizes=(1, 2, 2, 3)):
    dealt = random.Random(seed)
    for _ in range(many):
        points = dealt.choice(sizes)
        hand = dealt.choice((0, 1)) if points == 3 else dealt.randint(0, 2)
        book = deal_book(dealt)
        other = near_book(dealt, book) if dealt.random() < 0.6 else deal_book(dealt)
        yield dealt, book, other, deal_plan(dealt, many=points, hand=hand, walls=3)


class Alike(RefusingTestCase):

    def check_alike(self, one, other, plan):
        found = alike(one, other, plan)
        self.assertEqual([type(found), len(found), found[0]], [tuple, 2, "alike"])
        self.assertIs(is_right(one, plan, other, found[1]), True)
        self.assertIs(shows_alike(one, other, plan, found), True)
        self.assertEqual(alike(one, other, plan), found)
        return found[1]

    def check_parts(self, one, other, plan):
        found = alike(one, other, plan)
        self.assertEqual([type(found), len(found), found[0]], [tuple, 2, "parts"])
        self.assertIs(is_steady(one, plan, found[1]), True)
        self.assertNotEqual(drawn(one, plan, found[1]), drawn(other, plan, found[1]))
        self.assertIs(shows_alike(one, other, plan, found), True)
        self.assertEqual(alike(one, other, plan), found)
        return found[1]

    def test_the_examples(self):
        self.assertEqual(alike(ELDEST, LATEST, STEPS), ("parts", ((0, 0), (5, 50), (3, 100))))
        self.assertEqual(alike(BOOK, BOOK, ROOM)[0], "alike")

    def test_arguments_by_name(self):
        found = alike(plan=STEPS, other=LATEST, one=ELDEST)
        self.assertEqual(found[0], "parts")
        self.assertIs(shows_alike(value=found, plan=STEPS, other=LATEST, one=ELDEST), True)

    def test_one_book(self):
        for book in (ELDEST, LATEST, BOOK, book_of("corner 1", "grid 9"), book_of("straight 2", "wall 3")):
            for plan in (STEPS, PAIR, ROOM):
                self.check_alike(book, book, plan)
                self.check_alike(book, Book(book.text), plan)

    def test_books_that_differ_in_sequence_alone(self):
        self.check_parts(LATEST, ELDEST, STEPS)
        # With one elder point there is but one sequence.
        self.check_alike(ELDEST, LATEST, PAIR)
        # The point that is taken is another one, its coordinate the same.
        plan = Plan("hand 1\npoint a at 0 0\npoint b by a 40 2\npoint c by a 80 2 within 1")
        self.assertEqual(alike(ELDEST, LATEST, plan)[0], "alike")
        self.check_alike(ELDEST, LATEST, plan)
        self.check_parts(book_of("level 2"), book_of("level 2", among="latest"), plan)

    def test_books_that_differ_in_numbers_alone(self):
        self.check_alike(ELDEST, book_of("level 4"), PAIR.by_hand(3))
        self.check_alike(ELDEST, book_of("level 55"), PAIR.by_hand(3))
        hands = self.check_parts(ELDEST, book_of("level 4"), PAIR)
        self.assertEqual(abs(hands[1][1] - hands[0][1]), 4)
        # By the one book b is never nearer to a; by the other one hands go as far as they like.
        plan = Plan("hand 5\npoint a at 0 0\npoint b by a 60 9")
        self.check_alike(ELDEST, book_of("level 2"), plan)
        self.check_parts(ELDEST, book_of("level 5"), plan)
        self.check_parts(book_of("grid 4"), book_of("grid 8"), PAIR)

    def test_other_words_for_the_same(self):
        # What is taken at a distance of 0 is where it was, whichever rule takes it.
        for one in ("corner 0", "wall 0", "level 0", "straight 0"):
            for other in ("corner 0", "wall 0", "level 0", "straight 0"):
                plan = Plan("hand 1\npoint a at 0 0\npoint b by a 1 1\nwall a b\npoint c by a 1 0 within 0")
                self.check_alike(book_of(one), book_of(other), plan)
        self.check_alike(book_of("level 3"), book_of("straight 3"), PAIR)
        self.check_alike(book_of("corner 2", "level 2"), book_of("level 2", "corner 2"), Plan(
            "hand 1\npoint a at 0 0\npoint b by a 1 1"))

    def test_a_multiple_in_place_of_a_point(self):
        plan = Plan("hand 2\npoint a at 20 30 within 0\npoint b by a 10 0")
        self.check_alike(book_of("grid 10"), book_of("level 2", "grid 10"), plan)
        self.check_alike(book_of("level 2", "grid 10"), book_of("grid 10"), plan)
        self.check_alike(book_of("grid 10"), book_of("grid 5"), plan)
        self.check_parts(book_of("grid 10"), book_of("grid 5"), plan.by_hand(3))
        self.check_parts(book_of("grid 10"), book_of("level 2"), plan)
        plan = Plan("hand 2\npoint a at 21 30 within 0\npoint b by a 10 0")
        self.check_alike(book_of("corner 0"), book_of("level 0"), plan)
        # Though nobody aims at it, a is drawn at a multiple by either book.
        self.check_alike(book_of("level 2", "grid 10"), book_of("grid 10"), plan)

    def test_multiples_are_told_one_by_one(self):
        # By one book there is one case; by the other one 16, all drawn otherwise.
        plan = Plan("hand 2\npoint a at 0 0")
        self.check_parts(book_of("level 1"), book_of("grid 2"), plan)
        plan = Plan("hand 0\npoint a at 0 0\npoint b at 40 0 within 15")
        self.check_alike(book_of("grid 10"), book_of("straight 4", "grid 10"), plan)
        self.check_parts(book_of("grid 10"), book_of("straight 5", "grid 10"), plan)

    def test_walls(self):
        plan = Plan("hand 2\npoint a at 0 0\npoint b by a 40 0 within 0\nwall a b\nwall b a\npoint c by a 20 0")
        self.check_alike(book_of("wall 3"), book_of("wall 3", among="latest"), plan)
        self.check_alike(book_of("wall 3"), book_of("level 3"), plan)
        self.check_alike(book_of("wall 3"), book_of("wall 9"), plan)
        self.check_parts(book_of("wall 1"), book_of("level 3"), plan)
        self.check_parts(book_of("wall 3"), book_of("corner 3"), plan)

    def test_hands_are_steady_by_one(self):
        # b is drawn elsewhere by the other book, and so would the hand of c be aimed elsewhere.
        one, other = book_of("corner 0"), book_of("grid 99")
        plan = Plan("hand 0\npoint a at 0 0\npoint b by a 40 0\npoint c by b 99 99")
        hands = self.check_parts(one, other, plan)
        self.assertEqual(hands, ((0, 0), (40, 0), (139, 99)))
        self.assertIs(shows_alike(one, other, plan, ("parts", ((0, 0), (40, 0), (99, 99)))), False)

    def test_too_many(self):
        plan = JUST_400[1]
        one, many = book_of("level 0"), JUST_400[0]
        self.assertEqual(cases(many, plan), 400)
        self.check_parts(one, many, plan)
        self.check_parts(many, one, plan)
        self.assertEqual(alike(many, many, plan)[0], "alike")
        self.assertEqual(alike(many, book_of("grid 2", among="latest"), plan)[0], "alike")
        for many, plan in ABOVE_400[2:]:
            self.assertGreater(cases(book_of("corner 0"), plan.by_hand(0)), 0)
            if len(plan) == 2:
                self.assertEqual(cases(one, plan.by_hand(10)), 1)
            for value in (None, ("alike", FINE), ("parts", ())):
                for first, second in ((one, many), (many, one), (many, many)):
                    self.refuses(TooMany, 400, alike, first, second, plan)
                    self.refuses(TooMany, 400, shows_alike, first, second, plan, value)

    def test_by_all_steady_hands(self):
        found = {"parts": 0, "alike": 0, "trees": 0}
        for dealt, one, other, plan in deal(301, 300):
            rows = lists.rows_of(one, plan)
            value = alike(one, other, plan)
            found[value[0]] += 1
            found["trees"] += value[0] == "alike" and value[1] != FINE
            with self.subTest(one=one.text, other=other.text, plan=plan.text):
                self.assertIs(lists.is_alike(one, other, plan, rows, value), True)
                self.assertIs(shows_alike(one, other, plan, value), True)
                if value[0] == "parts":
                    hands = dealt.choice(lists.parting(other, plan, rows))
                    self.assertIs(shows_alike(one, other, plan, ("parts", hands)), True)
                else:
                    tree = grow_tree(dealt, one, plan, other, dealt.randint(0, 3))
                    self.assertIs(shows_alike(one, other, plan, ("alike", tree)), True)
        self.assertGreater(min(found.values()), 25)


class Shown(RefusingTestCase):

    def test_leaves(self):
        def check(right, one, other, plan, tree):
            with self.subTest(one=one.text, other=other.text, plan=plan.text, tree=tree):
                self.assertIs(shows_alike(one, other, plan, ("alike", tree)), right)
                self.assertIs(is_right(one, plan, other, tree), right)

        check(True, ELDEST, LATEST, PAIR.by_hand(3), FINE)
        # By one book the going stops.
        check(False, ELDEST, LATEST, PAIR, FINE)
        plan = Plan("hand 0\npoint a at 0 0\npoint b at 60 9 within 1")
        # By one book alone it does not; but it does by the other one.
        check(True, book_of("level 7"), book_of("level 5"), plan, FINE)
        check(False, book_of("level 10"), book_of("level 9"), plan, FINE)
        plan = Plan("hand 0\npoint a at 0 0\npoint b at 60 0 within 1")
        check(False, book_of("wall 0"), book_of("level 0"), plan, FINE)
        parts = ("ask", "y", "b!", "a", 0, ("ask", "y", "a", "b!", 0, FINE, FINE), FINE)
        check(True, book_of("wall 0"), book_of("level 0"), plan, parts)
        check(True, book_of("level 0"), book_of("wall 0"), plan, parts)
        check(False, book_of("wall 0"), book_of("level 1"), plan, parts)
        check(True, book_of("level 1"), book_of("level 2"), plan, parts)
        check(False, book_of("level 0"), book_of("wall 0"), plan, parts[:6] + (("fine", ()),))

    def test_rings_are_of_the_going_by_one(self):
        plan = PAIR.by_hand(3)
        for ring, right in (
            ((("a", "0", -5), ("0", "a!", 3), ("a!", "a", 0)), True),
            ((("a", "0", -5), ("0", "a", 3)), False),
            ((("a", "0", -5), ("0", "a!", 4), ("a!", "a", 0)), False),
        ):
            answers = ((("x", "a", "0", -5), True),)
            tree = tree_around(ELDEST, plan, LATEST, answers, ("never", "x", ring))
            self.assertIs(shows_alike(ELDEST, LATEST, plan, ("alike", tree)), right)
        # That b is level with a is put by the book that draws; what the other one takes is not.
        ring = (("a", "b", -1), ("b", "a", 0))
        for one, other, right in ((ELDEST, BOOK, True), (BOOK, ELDEST, True), (ELDEST, ELDEST, True)):
            tree = tree_around(one, plan, other, ((("y", "a", "b", -1), True),), ("never", "y", ring))
            self.assertIs(shows_alike(one, other, plan, ("alike", tree)), right)
        plan = Plan("hand 0\npoint a at 0 0\npoint b at 60 0")
        for one, other, right in ((ELDEST, book_of("corner 0"), True), (book_of("corner 0"), ELDEST, False)):
            tree = tree_around(one, plan, other, ((("y", "a", "b", -1), True),), ("never", "y", ring))
            self.assertIs(shows_alike(one, other, plan, ("alike", tree)), right)

    def test_one_part_otherwise(self):
        found = {True: 0, False: 0}
        for dealt, one, other, plan in deal(302, 150, (2, 2, 3)):
            if alike(one, other, plan)[0] == "parts":
                continue
            for tree in (alike(one, other, plan)[1], grow_tree(dealt, one, plan, other, 2)):
                for _ in range(8):
                    changed = deal_change(dealt, one, plan, other, tree)
                    right = is_right(one, plan, other, changed)
                    found[right] += 1
                    with self.subTest(one=one.text, other=other.text, plan=plan.text, changed=changed):
                        self.assertIs(shows_alike(one, other, plan, ("alike", changed)), right)
        self.assertGreater(min(found.values()), 60)

    def test_hands_otherwise(self):
        right = 0
        for _, one, other, plan in deal(303, 60, (1, 2, 2)):
            rows = lists.rows_of(one, plan)
            value = alike(one, other, plan)
            if value[0] == "alike":
                continue
            for changed in with_each_part_moved(value):
                expected = lists.is_alike(one, other, plan, rows, changed)
                right += expected
                with self.subTest(one=one.text, other=other.text, plan=plan.text, changed=changed):
                    self.assertIs(shows_alike(one, other, plan, changed), expected)
        self.assertGreater(right, 40)

    def test_wrong_forms(self):
        parted = (ELDEST, book_of("level 4"), PAIR)
        told = (book_of("level 4"), book_of("level 5"), PAIR.by_hand(4))
        stepped = (ELDEST, LATEST, PAIR)
        for asked in (parted, told, stepped):
            value = alike(*asked)
            self.assertIs(shows_alike(*asked, value), True)
            for other in odd_values():
                self.assertIs(shows_alike(*asked, other), False)
                self.assertIs(shows_alike(*asked, (value[0], other)), False)
                self.assertIs(shows_alike(*asked, (other, value[1])), False)
            for _, changed in with_each_part_changed(value):
                self.assertIs(shows_alike(*asked, changed), False)
            for kind in ("Alike", "sure", "fails", "", "part"):
                self.assertIs(shows_alike(*asked, (kind, value[1])), False)
            self.assertIs(shows_alike(*asked, value + value[1:]), False)
            self.assertIs(shows_alike(*asked, list(value)), False)
        self.assertIs(shows_alike(*parted, ("alike", FINE)), False)
        self.assertIs(shows_alike(*parted, ("alike", alike(*stepped)[1])), False)
        self.assertIs(shows_alike(*told, ("parts", alike(*parted)[1])), False)
        self.assertIs(shows_alike(*told, ("parts", FINE)), False)
        hands = alike(*parted)[1]
        still = Plan("hand 0\npoint a at 0 1\npoint b by a 60 4")
        self.assertIs(shows_alike(ELDEST, book_of("level 4"), still, ("parts", ((0, 1), (60, 5)))), True)
        self.assertIs(shows_alike(ELDEST, book_of("level 4"), still, ("parts", ((0, True), (60, 5)))), False)
        self.assertIs(shows_alike(ELDEST, book_of("level 4"), still, ("parts", hands)), False)

    def test_deep_values(self):
        for asked in ((ELDEST, book_of("level 4"), PAIR), (ELDEST, LATEST, PAIR.by_hand(3))):
            value = alike(*asked)
            for wrap in (lambda value: (value,), lambda value: [value], lambda value: ("alike", value)):
                deep = nested(value, 50000, wrap)
                for changed in (deep, (deep, value[1]), (value[0], deep), ("parts", (deep, deep)), ("alike", (deep,))):
                    self.assertIs(shows_alike(*asked, changed), False)
        tree = FINE
        for _ in range(20000):
            tree = ("ask", "x", "a", "0", 0, tree, ("never", "x", (("0", "a", -1), ("a", "0", 0))))
        tree = ("ask", "x", "a", "0", 0, tree, FINE)
        self.assertIs(shows_alike(ELDEST, LATEST, PAIR.by_hand(3), ("alike", tree)), True)
