"""Section 14: cheapest, and which answers of it are right."""

import itertools
import random

from tests import lists
from tests.dealt import deal_book, deal_plan, deal_wish, grow_tree
from tests.odd import RefusingTestCase, nested, odd_values, with_each_part_changed, with_each_part_moved
from tests.reference import is_right
from tests.test_judging import ABOVE_400, BOOK, JUST_400, ROOM
from wobblesnap.books import Book
from wobblesnap.choosing import cheapest, shows_cheapest
from wobblesnap.errors import BadBook, BadOffers, BadPlan, BadWishes, TooMany
from wobblesnap.judging import cases, shows_sure, sure
from wobblesnap.plans import Plan
from wobblesnap.wishes import kept

FINE = ("fine",)
LEVEL = Book("among eldest\nlevel 3")
PAIR = Plan("hand 4\npoint a at 0 0\npoint b by a 60 0")
WISHES = (("level", "a", "b"),)
WIDER = ("book", 2, "level 4", 5)
STEADIER = ("plan", 1, "hand 3", 2)
STILL = ("plan", 3, "point b by a 60 0 within 0", 3)


def changed_by(book, plan, choice):
    """The (book, plan) that a choice makes, or None; in other words than those of the program."""
    texts = {"book": book.text.split("\n"), "plan": plan.text.split("\n")}
    for what in texts:
        new = []
        for number, line in enumerate(texts[what], 1):
            told = [offer[2] for offer in choice if offer[:2] == (what, number)]
            new += [line] if not told else told[0].split("\n") if told[0] else []
        texts[what] = "\n".join(new)
    try:
        return Book(texts["book"]), Plan(texts["plan"])
    except (BadBook, BadPlan):
        return None


def choices_by(offers):
    """All choices, in sequence."""
    found = []
    for many in range(len(offers) + 1):
        for choice in itertools.combinations(offers, many):
            if len({offer[:2] for offer in choice}) == many:
                found.append((sum(offer[3] for offer in choice), many, choice))
    return [choice for _, _, choice in sorted(found)]


def counted(book, plan, offers, wishes):
    """(choice, book, plan, {number of each wish that fails: hands}) for each choice that counts."""
    found = []
    for choice in choices_by(offers):
        changed = changed_by(book, plan, choice)
        if changed is None or any(set(wish[1:4 if wish[0] == "on" else 3]) - set(changed[1].points) for wish in wishes):
            continue
        try:
            told = [sure(*changed, wish) for wish in wishes]
        except TooMany:
            continue
        fails = {number: hands for number, (kind, hands) in enumerate(told) if kind == "fails"}
        found.append((choice,) + changed + (fails,))
    return found


def told_by(rows):
    """What cheapest tells, but for trees and hands: (kind, price, choice, [(choice, number)])."""
    reasons = []
    for choice, _, _, fails in rows:
        if not fails:
            return "choice", sum(offer[3] for offer in choice), choice, reasons
        reasons.append((choice, min(fails)))
    return "none", None, None, reasons


class Choosing(RefusingTestCase):

    def check(self, book, plan, offers, wishes):
        found = cheapest(book, plan, offers, wishes)
        rows = counted(book, plan, offers, wishes)
        kind, price, choice, reasons = told_by(rows)
        self.assertIs(type(found), tuple)
        self.assertEqual((found[0], len(found)), (kind, {"choice": 5, "none": 2}[kind]))
        self.assertIs(type(found[-1]), tuple)
        self.assertEqual([(reason[0], reason[1]) for reason in found[-1]], reasons)
        for (_, other, changed, _), reason in zip(rows, found[-1]):
            self.assertEqual([type(reason), len(reason), type(reason[1])], [tuple, 3, int])
            self.assertIs(shows_sure(other, changed, wishes[reason[1]], ("fails", reason[2])), True)
        if kind == "choice":
            self.assertEqual(found[1:3], (price, choice))
            self.assertEqual([type(found[1]), type(found[2]), type(found[3])], [int, tuple, tuple])
            _, other, changed, _ = rows[len(reasons)]
            self.assertEqual(len(found[3]), len(wishes))
            for wish, tree in zip(wishes, found[3]):
                self.assertIs(shows_sure(other, changed, wish, ("sure", tree)), True)
        self.assertIs(shows_cheapest(book, plan, offers, wishes, found), True)
        self.assertEqual(cheapest(book, plan, offers, wishes), found)
        return found


class Cheapest(Choosing):

    def test_no_change_is_needed(self):
        self.assertEqual(self.check(LEVEL, PAIR.by_hand(3), (WIDER,), WISHES), ("choice", 0, (), (FINE,), ()))

    def test_arguments_by_name(self):
        found = cheapest(wishes=WISHES, offers=(WIDER,), plan=PAIR, book=LEVEL)
        self.assertEqual(found[:3], ("choice", 5, (WIDER,)))
        self.assertIs(shows_cheapest(value=found, wishes=WISHES, offers=(WIDER,), plan=PAIR, book=LEVEL), True)

    def test_the_cheapest_one(self):
        self.assertEqual(self.check(LEVEL, PAIR, (WIDER, STEADIER, STILL), WISHES)[1:3], (2, (STEADIER,)))
        self.assertEqual(self.check(LEVEL, PAIR, (WIDER, STILL), WISHES)[1:3], (3, (STILL,)))
        found = self.check(LEVEL, PAIR, (WIDER, ("plan", 1, "hand 3", 9)), WISHES)
        self.assertEqual(found[1:3], (5, (WIDER,)))
        self.assertEqual([reason[0] for reason in found[4]], [()])

    def test_several_offers_together(self):
        plan = Plan("hand 4\npoint a at 0 0\npoint b by a 60 0\npoint c by b 0 50")
        wishes = (("level", "a", "b"), ("upright", "b", "c"))
        offers = (("plan", 3, "point b by a 60 0 within 3", 1), ("plan", 4, "point c by b 0 50 within 3", 2))
        found = self.check(LEVEL, plan, offers, wishes)
        self.assertEqual(found[:3], ("choice", 3, offers))
        self.assertEqual([(reason[0], reason[1]) for reason in found[4]], [((), 0), (offers[:1], 1), (offers[1:], 0)])

    def test_the_sequence_of_choices(self):
        # None of them helps; so all choices are told: by price, by how many offers, as tuples.
        offers = (("book", 2, "level 2", 2), ("plan", 2, "point a at 1 1", 1), ("plan", 3, "point b by a 61 0", 1),
                  ("plan", 3, "point b by a 62 0", 2))
        found = self.check(LEVEL, PAIR, offers, WISHES)
        one, two, three, four = offers
        self.assertEqual([reason[0] for reason in found[1]], [
            (), (two,), (three,), (one,), (four,), (two, three), (one, two), (one, three), (two, four), (one, four),
            (one, two, three), (one, two, four),
        ])

    def test_two_offers_for_one_line(self):
        offers = (("plan", 1, "hand 2", 3), ("plan", 1, "hand 3", 2), ("plan", 1, "hand 9", 1))
        found = self.check(LEVEL, PAIR, offers, WISHES)
        self.assertEqual(found[:3], ("choice", 2, offers[1:2]))
        # The line of that number in the book is another one.
        offers = (("book", 2, "level 1", 1), ("plan", 2, "point a at 7 7", 1))
        self.assertIn(offers, [reason[0] for reason in self.check(LEVEL, PAIR, offers, WISHES)[1]])

    def test_a_line_is_left_out(self):
        book = Book("among eldest\ncorner 0\nstraight 1\nlevel 4")
        plan = Plan("hand 4\npoint a at 0 0\npoint b by a 60 0")
        self.assertEqual(self.check(book, plan, (("book", 3, "", 9),), WISHES)[:3], ("choice", 0, ()))
        book = Book("among eldest\ncorner 9\nlevel 4")
        plan = Plan("hand 4\npoint a at 0 0\npoint b by a 9 0\npoint c by b 60 0")
        wishes = (("apart", "a", "b", 1), ("level", "b", "c"))
        found = self.check(book, plan, (("book", 2, "", 4), ("book", 3, "", 1)), wishes)
        self.assertEqual(found[:3], ("choice", 4, (("book", 2, "", 4),)))
        # Without its only rule there is no such book.
        found = self.check(LEVEL, PAIR, (("book", 2, "", 1),), WISHES)
        self.assertEqual(found[0], "none")
        self.assertEqual(len(found[1]), 1)
        self.assertEqual(self.check(LEVEL, PAIR, (("book", 1, "", 1), ("book", 2, "", 1)), WISHES)[1][0][0], ())

    def test_several_lines_in_place_of_one(self):
        found = self.check(LEVEL, PAIR, (("book", 2, "straight 4\nlevel 3", 7),), WISHES)
        self.assertEqual(found[:2], ("choice", 7))
        wishes = (("upright", "c", "a"),)
        found = self.check(LEVEL, PAIR, (("plan", 3, "point c by a 0 50 within 1\npoint b by a 60 0", 1),), wishes)
        self.assertEqual((found[:2], found[4]), (("choice", 1), ()))
        # Numbers of lines are those of the texts as they were handed in.
        offers = (("plan", 2, "point a at 0 0\npoint d at 300 300", 1), ("plan", 3, "point b by a 60 0 within 3", 1))
        self.assertEqual(self.check(LEVEL, PAIR, offers, WISHES)[2], offers[1:])
        self.assertEqual(self.check(LEVEL, PAIR, offers, (("level", "a", "b"), ("apart", "a", "d", 1)))[2], offers)
        offers = (("plan", 2, "", 1), ("plan", 3, "point a at 0 0\npoint b by a 60 0 within 3", 1))
        self.assertEqual(self.check(LEVEL, PAIR, offers, WISHES)[2], offers)

    def test_texts_with_which_book_or_plan_raises(self):
        offers = (("book", 2, "level 100", 1), ("plan", 1, "hand", 1), ("plan", 3, "point c by d 1 1", 1))
        found = self.check(LEVEL, PAIR, offers, WISHES)
        self.assertEqual((found[0], [reason[0] for reason in found[1]]), ("none", [()]))
        for text in ("\n", "level 3\n", "\nlevel 3", "level 3\nlevel 3", " ", "grid 1", "among eldest"):
            found = self.check(LEVEL, PAIR, (("book", 2, text, 1),), WISHES)
            self.assertEqual([reason[0] for reason in found[1]], [()])

    def test_names_that_are_none_of_the_plan(self):
        wishes = (("level", "a", "c"), ("level", "a", "b"))
        offer = ("plan", 3, "point b by a 60 0 within 0\npoint c by a 90 0 within 0", 4)
        self.assertEqual(self.check(LEVEL, PAIR, (offer,), wishes), ("choice", 4, (offer,), (FINE, FINE), ()))
        self.assertEqual(self.check(LEVEL, PAIR, (WIDER,), wishes), ("none", ()))
        self.assertEqual(self.check(LEVEL, PAIR, (WIDER,), (("same", "zzzzzzzz", "qqqqqqqq"),)), ("none", ()))
        # A choice by which the names are no more there does not count.
        offer = ("plan", 3, "point d by a 60 0", 1)
        self.assertEqual([row[0] for row in self.check(LEVEL, PAIR, (offer,), WISHES)[1]], [()])

    def test_just_400_cases_and_above(self):
        book, plan = JUST_400
        wishes = (("x", "b", "a", 482, 518),)
        self.assertEqual([row[0] for row in self.check(book, plan, (("plan", 1, "hand 20", 1),), wishes)[1]], [()])
        found = self.check(book, plan, (("plan", 1, "hand 18", 2), ("plan", 1, "hand 20", 1)), wishes)
        self.assertEqual((found[1], len(found[4])), (2, 1))
        wide = plan.by_hand(20)
        self.refuses(TooMany, 400, cases, book, wide)
        self.assertEqual(self.check(book, wide, (("plan", 1, "hand 21", 1),), wishes), ("none", ()))
        found = self.check(book, wide, (("plan", 1, "hand 18", 1), ("plan", 1, "hand 19", 1)), wishes)
        self.assertEqual((found[1], found[2][0][2], found[4]), (1, "hand 18", ()))
        for book, plan in ABOVE_400:
            self.assertEqual(self.check(book, plan, (("plan", 1, "hand 99", 1),), (("same", "a", "b"),)), ("none", ()))

    def test_one_to_four_offers_and_prices(self):
        offers = tuple(("plan", 1, f"hand {number}", price) for number, price in ((3, 9), (4, 1), (5, 1), (6, 8)))
        for many in range(1, 5):
            self.assertEqual(self.check(LEVEL, PAIR, offers[:many], WISHES)[1], 9)
        offers = (("book", 2, "straight 4\nlevel 3", 9), ("plan", 1, "hand 3", 9))
        found = self.check(LEVEL, PAIR, offers, WISHES)
        self.assertEqual(found[1:3], (9, offers[:1]))

    def test_one_to_three_wishes(self):
        wishes = (("level", "a", "b"), ("x", "b", "a", 56, 64), ("apart", "a", "b", 57))
        for many, told in ((1, 0), (2, 0), (3, 0)):
            found = self.check(LEVEL, PAIR, (STEADIER, STILL), wishes[:many])
            self.assertEqual((found[2], found[4][0][1]), ((STEADIER,), told))
        found = self.check(LEVEL, PAIR, (STEADIER, STILL), wishes[1:])
        self.assertEqual((found[2], found[4][0][1]), ((STEADIER,), 1))

    def test_six_points(self):
        offers = (("book", 2, "corner 6", 4), ("book", 3, "level 5", 3), ("plan", 1, "hand 3", 6))
        found = self.check(Book("among eldest\ncorner 5\nlevel 3"), ROOM.by_hand(5), offers,
                           (("upright", "a", "d"), ("level", "a", "b"), ("level", "c", "d")))
        self.assertEqual(found[1:3], (3, offers[1:2]))
        self.assertEqual(self.check(BOOK, ROOM, offers, (("level", "a", "b"),))[1], 0)

    def test_by_other_words(self):
        dealt = random.Random(601)
        found = {"choice": 0, "none": 0, "late": 0}
        for _ in range(120):
            book, plan, offers, wishes = deal_choosing(dealt)
            with self.subTest(book=book.text, plan=plan.text, offers=offers, wishes=wishes):
                value = self.check(book, plan, offers, wishes)
                found[value[0]] += 1
                found["late"] += value[0] == "choice" and len(value[4]) > 0
        self.assertGreater(min(found.values()), 8)

    def test_by_all_steady_hands(self):
        dealt = random.Random(602)
        for _ in range(25):
            book, plan, offers, wishes = deal_choosing(dealt)
            value = cheapest(book, plan, offers, wishes)
            for choice, number, hands in value[-1]:
                other, changed = changed_by(book, plan, choice)
                self.assertIs(kept(other, changed, wishes[number], hands), False)
                rows = lists.rows_of(other, changed)
                self.assertTrue(lists.among(hands, lists.failing(changed, rows, wishes[number])))
                self.assertEqual([lists.failing(changed, rows, wish) for wish in wishes[:number]], [[]] * number)
            if value[0] == "choice":
                other, changed = changed_by(book, plan, value[2])
                rows = lists.rows_of(other, changed)
                self.assertEqual([lists.failing(changed, rows, wish) for wish in wishes], [[]] * len(wishes))


def deal_choosing(dealt):
    """A small book and plan, offers for them, and wishes, some of which name points that are not there yet."""
    book, plan = deal_book(dealt), deal_plan(dealt, many=2, hand=1, walls=1)
    wishes = tuple(deal_wish(dealt, plan) for _ in range(dealt.randint(1, 2)))
    lines = plan.text.split("\n")
    offers = set()
    while len(offers) < dealt.randint(1, 4):
        if dealt.random() < 0.4:
            number = dealt.randint(1, len(book.text.split("\n")))
            text = dealt.choice(("among latest", "among eldest", "level 9", "corner 9", "straight 9", "",
                                 "wall 2\ngrid 3"))
            offers.add(("book", number, text, dealt.randint(1, 3)))
        else:
            number = dealt.randint(1, len(lines))
            text = dealt.choice(("hand 0", "hand 2", lines[number - 1] + "\npoint e at 0 0", "point b by a 0 0", "",
                                 "point b by a 0 0 within 0", "point b at 9 9 within 1", "point a at 1 1"))
            offers.add(("plan", number, text, dealt.randint(1, 3)))
    return book, plan, tuple(sorted(offers)), wishes


class Wrong(RefusingTestCase):

    def bad(self, value):
        with self.subTest(value=value):
            self.refuses(BadOffers, value, cheapest, LEVEL, PAIR, value, WISHES)
            self.refuses(BadOffers, value, cheapest, LEVEL, PAIR, value, value)
            self.refuses(BadOffers, value, shows_cheapest, LEVEL, PAIR, value, None, value)

    def test_offers(self):
        for value in odd_values():
            self.bad(value)
            self.bad((value,))
            self.bad((WIDER, value))
            for at in range(4):
                if not (at == 1 and value == 1 and value is not True) and not (at == 2 and isinstance(value, str)) \
                        and not (at == 3 and value == 1 and value is not True):
                    self.bad((WIDER[:at] + (value,) + WIDER[at + 1:],))
        many = tuple(("plan", 1, f"hand {number}", 1) for number in range(5))
        for value in (many, list(many[:2]), many[1::-1], many[:1] * 2, (), WIDER, (WIDER, WIDER), (STEADIER, WIDER),
                      (WIDER + (1,),), (WIDER[:3],), (list(WIDER),), [WIDER], {WIDER: 1}, ((WIDER,),)):
            self.bad(value)

    def test_lines_and_prices(self):
        for number in (-1, 0, 3, 4, 99, 999999999, True, "2", None, (2,)):
            self.bad((("book", number, "level 4", 5),))
        for number in (-1, 0, 4, 5, False, "1"):
            self.bad((("plan", number, "hand 3", 5),))
        for price in (0, 10, -1, 99, True, "5", None, (5,)):
            self.bad((("book", 2, "level 4", price),))
        for what in ("books", "Book", "", "bay", 0, None, ("book",), "wish"):
            self.bad(((what, 2, "level 4", 5),))
        for text in (None, 4, ("level 4",), ["level 4"], True, Book("among eldest\nlevel 3")):
            self.bad((("book", 2, text, 5),))
        # Any text at all is good enough for an offer.
        for text in ("", " ", "\n", "nothing", "level 4 "):
            self.assertEqual(cheapest(LEVEL, PAIR, (("book", 2, text, 5),), WISHES)[0], "none")
        for line in (1, 2):
            cheapest(LEVEL, PAIR, (("book", line, "level 4", 1),), WISHES)
        for line in (1, 2, 3):
            cheapest(LEVEL, PAIR, (("plan", line, "hand 1", 9),), WISHES)

    def test_ascending(self):
        rows = (("book", 1, "among latest", 3), ("book", 2, "", 2), ("book", 2, "level 4", 1), ("plan", 1, "hand 1", 1),
                ("plan", 1, "hand 1", 2), ("plan", 2, "", 9))
        for offers in itertools.permutations(rows, 3):
            if offers == tuple(sorted(offers)):
                self.assertEqual(cheapest(LEVEL, PAIR.by_hand(3), offers, WISHES)[0], "choice")
            else:
                self.bad(offers)

    def test_wishes(self):
        wish = ("level", "a", "b")
        for value in odd_values() + [
            (wish,) * 4, [wish], wish, ((wish,),), (wish, None), (list(wish),), (("level", "a", "A"),),
            (("same", "a"),),
            (("x", "a", "b", 0, True),), (("level", "a", "a"),), {0: wish}, (("level", "a", "abcdefghi"),), ((), wish),
            (("apart", "a", "b", 0),), (("on", "a", "b", "a"),), (("level", "a", ""),), (("level", "a!", "b"),),
            (("level", "zz", "zz"),), (("x", "q", "r", 0),), (("x", "q", "r", 0, 100000),),
        ]:
            self.refuses(BadWishes, value, cheapest, LEVEL, PAIR, (WIDER,), value)
            self.refuses(BadWishes, value, shows_cheapest, LEVEL, PAIR, (WIDER,), value, value)
            self.refuses(BadOffers, (), cheapest, LEVEL, PAIR, (), value)
            book, plan = ABOVE_400[0]
            self.refuses(BadWishes, value, cheapest, book, plan, (("plan", 1, "hand 1", 1),), value)
        # Any names are points here.
        for wish in (("level", "q", "r"), ("on", "level", "same", "abcdefgh"), ("x", "x", "y", -99999, 99999),
                     ("apart", "apart", "a", 99999)):
            self.assertEqual(cheapest(LEVEL, PAIR, (WIDER,), (wish,)), ("none", ()))


class Shown(Choosing):

    def asked(self):
        """Arguments with a late choice, with none, with no reasons at all, and the first choice."""
        wishes = (("y", "b", "a", -3, 3), ("apart", "a", "b", 1), ("level", "b", "a"))
        return [
            (LEVEL, PAIR, (WIDER, STEADIER, STILL), wishes[:2]),
            (LEVEL, PAIR, (("book", 2, "level 2", 1), ("plan", 2, "point a at 1 1", 1)), wishes),
            (LEVEL, PAIR, (WIDER,), (("level", "a", "z"),)),
            (LEVEL, PAIR, (WIDER,), (("y", "b", "a", -4, 4),)),
        ]

    def test_the_number_of_any_wish_that_fails(self):
        wishes = (("level", "a", "b"), ("apart", "a", "b", 1), ("level", "b", "a"))
        for offers in ((WIDER,), (("book", 2, "level 2", 1),)):
            found = self.check(LEVEL, PAIR, offers, wishes)
            choice, number, hands = found[-1][0]
            self.assertEqual(number, 0)
            for other in range(-1, 4):
                changed = found[:-1] + (((choice, other, hands),) + found[-1][1:],)
                self.assertIs(shows_cheapest(LEVEL, PAIR, offers, wishes, changed), other in (0, 2))
            changed = found[:-1] + (((choice, False, hands),) + found[-1][1:],)
            self.assertIs(shows_cheapest(LEVEL, PAIR, offers, wishes, changed), False)

    def test_results_of_other_hands(self):
        dealt = random.Random(603)
        needless = 0
        for _ in range(60):
            book, plan, offers, wishes = deal_choosing(dealt)
            value = cheapest(book, plan, offers, wishes)
            reasons = []
            for choice, number, hands in value[-1]:
                other, changed = changed_by(book, plan, choice)
                rows = lists.rows_of(other, changed)
                fails = {at: lists.failing(changed, rows, wish) for at, wish in enumerate(wishes)}
                number = dealt.choice([at for at in fails if fails[at]])
                reasons.append((choice, number, dealt.choice(fails[number])))
            told = value[:-1] + (tuple(reasons),)
            if value[0] == "choice":
                other, changed = changed_by(book, plan, value[2])
                trees = tuple(grow_tree(dealt, other, changed, wish, 2) for wish in wishes)
                needless += trees != value[3]
                told = value[:3] + (trees, tuple(reasons))
            with self.subTest(book=book.text, plan=plan.text, offers=offers, wishes=wishes, told=told):
                self.assertIs(shows_cheapest(book, plan, offers, wishes, told), True)
        self.assertGreater(needless, 15)

    def is_right_value(self, asked, value):
        """Whether a value is right, by the list of choices that count."""
        book, plan, offers, wishes = asked
        rows = counted(*asked)
        kind, price, choice, reasons = told_by(rows)
        if not lists.is_row(value, {"choice": 5, "none": 2}[kind]) or not lists.same(value[0], kind):
            return False
        if not lists.is_row(value[-1], len(reasons)):
            return False
        for (told, other, changed, fails), reason in zip(rows, value[-1]):
            if not lists.is_row(reason, 3) or not lists.same(reason[0], told) or type(reason[1]) is not int:
                return False
            if reason[1] not in fails:
                return False
            if not lists.among(reason[2], lists.failing(changed, lists.rows_of(other, changed), wishes[reason[1]])):
                return False
        if kind == "none":
            return True
        _, other, changed, _ = rows[len(reasons)]
        return lists.same(value[1:3], (price, choice)) and lists.is_row(value[3], len(wishes)) and all(
            is_right(other, changed, wish, tree) for wish, tree in zip(wishes, value[3]))

    def test_one_part_otherwise(self):
        dealt = random.Random(604)
        found = {True: 0, False: 0}
        for _ in range(25):
            asked = deal_choosing(dealt)
            changes = list(with_each_part_moved(cheapest(*asked)))
            for changed in dealt.sample(changes, min(len(changes), 30)):
                right = self.is_right_value(asked, changed)
                found[right] += 1
                with self.subTest(asked=asked, changed=changed):
                    self.assertIs(shows_cheapest(*asked, changed), right)
        self.assertGreater(min(found.values()), 5)

    def test_wrong_forms(self):
        for asked in self.asked():
            value = self.check(*asked)
            for changed in odd_values():
                self.assertIs(shows_cheapest(*asked, changed), False)
            changes = list(with_each_part_changed(value))
            for _, changed in changes[::1 + len(changes) // 700]:
                self.assertIs(shows_cheapest(*asked, changed), False)
            self.assertIs(shows_cheapest(*asked, value + ((),)), False)
            self.assertIs(shows_cheapest(*asked, value[:-1] + (value[-1] + value[-1][:1],)), not value[-1])
        asked = self.asked()[0]
        kind, price, choice, trees, reasons = cheapest(*asked)
        for changed in (
            (kind, price, choice, trees), (kind, price, choice, reasons, trees), (kind, price, choice, (), reasons),
            (kind, 5, (WIDER,), trees, reasons), (kind, price + 1, choice, trees, reasons), ("none", reasons),
            (kind, price, choice, trees, ()), (kind, price, list(choice), trees, reasons),
            (kind, price, (), trees, reasons),
            (kind, price, choice, trees[:1], reasons), (kind, price, choice, trees + trees, reasons),
            (kind, price, (choice[0][:3] + (True,),), trees, reasons), ("none", ()), (kind, 0, (), trees, ()),
        ):
            self.assertIs(shows_cheapest(*asked, changed), False)
        offers = (("plan", 1, "hand 3", 1),)
        for price, told in ((1, True), (True, False)):
            value = ("choice", price, offers, (FINE,), cheapest(LEVEL, PAIR, offers, WISHES)[4])
            self.assertIs(shows_cheapest(LEVEL, PAIR, offers, WISHES, value), told)
            value = ("choice", 1, (("plan", price, "hand 3", 1),), (FINE,), value[4])
            self.assertIs(shows_cheapest(LEVEL, PAIR, offers, WISHES, value), told)

    def test_deep_values(self):
        for asked in self.asked():
            value = cheapest(*asked)
            for wrap in (lambda value: (value,), lambda value: [value], lambda value: ("none", value)):
                deep = nested(value, 50000, wrap)
                self.assertIs(shows_cheapest(*asked, deep), False)
                for at in range(len(value)):
                    for part in (deep, (deep,), (deep, deep), ((deep, 0, deep),)):
                        self.assertIs(shows_cheapest(*asked, value[:at] + (part,) + value[at + 1:]), False)
