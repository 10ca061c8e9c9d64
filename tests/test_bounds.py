"""Section 4: bounds, settled, shows_settled and least_way."""

import itertools
import random
import unittest

from tests.odd import RefusingTestCase, nested, odd_but, odd_values, with_each_part_changed
from wobblesnap.books import Book
from wobblesnap.bounds import least_way, settled, shows_settled
from wobblesnap.errors import BadBounds, BadTerm, Contrary

SOME = (("a", "b", 2), ("b", "c", 3), ("a", "c", 6))
CONTRARY = (("a", "b", 2), ("b", "a", -3))
RIGHT_TERMS = ("0", "a", "z", "zz", "abcdefgh", "a!", "abcdefgh!", "zzzzzzzz!")
WRONG_TERMS = (
    "", "!", "0!", "00", "1", "-0", "A", "aB", "abcdefghi", "abcdefghi!", "a!!", "!a", "a b", " a", "a ", "a0", "0a",
    "a_", "a\n", "a-", "a?", "`", "{", "a!b", "a !", "@",
)


def all_sums(bounds):
    """The least sums from each term to each other, worked out by way of each term in turn; None if contrary."""
    terms = sorted({"0"} | {term for bound in bounds for term in bound[:2]})
    sums = {(one, one): 0 for one in terms}
    for one, other, most in bounds:
        sums[one, other] = min(most, sums.get((one, other), most))
    for by, one, other in itertools.product(terms, repeat=3):
        if (one, by) in sums and (by, other) in sums:
            there = sums[one, by] + sums[by, other]
            sums[one, other] = min(there, sums.get((one, other), there))
    if any(sums[one, one] < 0 for one in terms):
        return None
    return sums


def small_bounds():
    """All bounds of up to three among a few terms, with mosts on both sides of 0, and some twice."""
    single = [(one, other, most) for one, other in itertools.permutations(("0", "a", "a!"), 2) for most in (-1, 0, 2)]
    for many in range(4):
        for bounds in itertools.combinations_with_replacement(single, many):
            yield bounds


def greater_bounds():
    """Many bounds among some terms, as an even hand of cards deals them: alike in each run."""
    dealt = random.Random(20261119)
    terms = ("0", "a", "a!", "b", "b!", "c", "dd", "dd!")
    for low in (-4, -2, -1, 0):
        for many in (5, 8, 12, 20):
            for _ in range(40):
                pairs = [dealt.sample(terms, 2) for _ in range(many)]
                yield tuple((one, other, dealt.randint(low, 6)) for one, other in pairs)


class Checked(RefusingTestCase):
    """What each right result is like, told here once more in other words than those of the program."""

    def check_values(self, bounds, values):
        self.assertIs(type(values), tuple)
        for pair in values:
            self.assertIs(type(pair), tuple)
            self.assertEqual([type(part) for part in pair], [str, int])
        terms = sorted({"0"} | {one for one, _, _ in bounds} | {other for _, other, _ in bounds})
        self.assertEqual([term for term, _ in values], terms)
        worth = dict(values)
        self.assertEqual(worth["0"], 0)
        for one, other, most in bounds:
            self.assertLessEqual(worth[one] - worth[other], most)

    def check_way(self, bounds, way, one, other):
        self.assertIs(type(way), tuple)
        for step in way:
            self.assertIn(step, bounds)
            self.assertIs(type(step), tuple)
            self.assertEqual(step[0], one)
            one = step[1]
        self.assertEqual(one, other)

    def check_ring(self, bounds, ring):
        self.assertGreater(len(ring), 0)
        self.check_way(bounds, ring, ring[0][0], ring[0][0])
        self.assertLess(sum(most for _, _, most in ring), 0)

    def check_settled(self, bounds, contrary):
        result = settled(bounds)
        self.assertIs(type(result), tuple)
        self.assertEqual(len(result), 2)
        self.assertEqual(result[0], "ring" if contrary else "values")
        if contrary:
            self.check_ring(bounds, result[1])
        else:
            self.check_values(bounds, result[1])
        self.assertIs(shows_settled(bounds, result), True)
        self.assertEqual(settled(bounds), result)


class Examples(unittest.TestCase):

    def test_the_examples_of_section_4(self):
        self.assertEqual(
            [
                settled((("a", "b", 2), ("b", "0", -3), ("0", "a", 1)))[0],
                least_way((("a", "b", 2), ("b", "c", 3), ("a", "c", 6)), "a", "c"),
                least_way((), "a", "0"),
            ],
            ["values", (5, (("a", "b", 2), ("b", "c", 3))), None],
        )
        self.assertEqual(settled((("a", "b", 2), ("b", "a", -3)))[0], "ring")

    def test_the_only_values(self):
        bounds = (("a", "b", 2), ("b", "0", -3), ("0", "a", 1))
        self.assertEqual(settled(bounds), ("values", (("0", 0), ("a", -1), ("b", -3))))

    def test_arguments_by_name(self):
        self.assertEqual(settled(bounds=()), ("values", (("0", 0),)))
        self.assertIs(shows_settled(value=("values", (("0", 0),)), bounds=()), True)
        self.assertEqual(least_way(other="c", one="a", bounds=SOME), (5, SOME[:2]))


class WrongBounds(RefusingTestCase):

    def bad(self, bounds):
        with self.subTest(bounds=bounds):
            self.refuses(BadBounds, bounds, settled, bounds)
            self.refuses(BadBounds, bounds, shows_settled, bounds, ("values", (("0", 0),)))
            self.refuses(BadBounds, bounds, shows_settled, bounds=bounds, value=None)
            self.refuses(BadBounds, bounds, least_way, bounds, "a", "b")
            self.refuses(BadBounds, bounds, least_way, bounds, 5, None)

    def test_no_tuple(self):
        for value in odd_but(tuple):
            self.bad(value)
        self.bad([("a", "b", 1)])
        self.bad({("a", "b", 1): True})
        self.bad(Book("among eldest\nlevel 3"))

    def test_what_are_no_bounds_within_a_tuple(self):
        for value in odd_values():
            if value == ("a", "b", 1):
                continue
            self.bad((value,))
            self.bad((("a", "b", 1), value))
            self.bad((value, ("a", "b", 1), ("b", "a", -3)))

    def test_a_bound_alone(self):
        self.bad(("a", "b", 1))

    def test_too_few_and_too_many_parts(self):
        for bound in ((), ("a",), ("a", "b"), ("a", "b", 1, 1), ("a", "b", 1, None)):
            self.bad((bound,))

    def test_lists_for_tuples(self):
        self.bad((["a", "b", 1],))
        self.bad([["a", "b", 1]])
        self.bad((("a", "b", [1]),))
        self.bad(((["a"], "b", 1),))

    def test_no_terms(self):
        for value in list(WRONG_TERMS) + odd_but(str):
            self.bad(((value, "b", 1),))
            self.bad((("b", value, 1),))
            self.bad((("a", "b", 1), ("b", value, 1)))

    def test_alike_terms(self):
        for term in RIGHT_TERMS:
            self.bad(((term, term, 1),))
            self.bad((("a", "b", 1), (term, term, 0)))

    def test_no_integer(self):
        for value in odd_but(int) + [True, False, "1", (1,), [1]]:
            self.bad((("a", "b", value),))
            self.bad((("a", "b", 1), ("b", "c", value)))

    def test_the_sequence_of_a_bound(self):
        self.bad((("a", 1, "b"),))
        self.bad(((1, "a", "b"),))

    def test_very_deep_ones(self):
        deep = nested((), 50000, lambda value: (value,))
        for bounds in (deep, ((deep, "a", 1),), (("a", deep, 1),), (("a", "b", deep),)):
            self.refuses(BadBounds, bounds, settled, bounds)
            self.refuses(BadBounds, bounds, shows_settled, bounds, deep)
            self.refuses(BadBounds, bounds, least_way, bounds, deep, deep)


class Settled(Checked):

    def test_no_bounds(self):
        self.assertEqual(settled(()), ("values", (("0", 0),)))

    def test_one_bound(self):
        for one, other in itertools.permutations(RIGHT_TERMS, 2):
            for most in (-999999999, -1, 0, 1, 999999999):
                with self.subTest(one=one, other=other, most=most):
                    self.check_settled(((one, other, most),), False)

    def test_one_term_alone(self):
        self.check_settled((("a", "0", -5),), False)
        self.check_settled((("0", "a", -5),), False)
        self.check_settled((("a", "0", 5), ("0", "a", -5)), False)
        self.assertEqual(settled((("a", "0", 5), ("0", "a", -5)))[1], (("0", 0), ("a", 5)))

    def test_bounds_apart_from_each_other(self):
        self.check_settled((("a", "b", -1), ("c", "d", -2), ("e!", "0", -3)), False)
        self.check_settled((("a", "b", -1), ("c", "d", -2), ("d", "c", 1)), True)

    def test_a_name_and_its_hand_are_two_terms(self):
        self.check_settled((("a", "a!", -1), ("a!", "a", 1)), False)
        self.check_settled((("a", "a!", -1), ("a!", "a", 0)), True)
        self.assertEqual([term for term, _ in settled((("b", "a!", 1), ("a", "b", 1)))[1]], ["0", "a", "a!", "b"])

    def test_bounds_that_stand_twice(self):
        self.check_settled((("a", "b", 2), ("a", "b", 2), ("b", "a", -2), ("b", "a", -2)), False)
        self.check_settled((("a", "b", 2), ("a", "b", 1), ("b", "a", -2)), True)
        self.check_settled((("a", "b", 1), ("a", "b", 2), ("b", "a", -2)), True)
        self.check_settled((("a", "b", 2), ("a", "b", 3), ("b", "a", -2)), False)

    def test_a_ring_of_two(self):
        self.check_settled((("a", "b", 2), ("b", "a", -2)), False)
        self.check_settled((("a", "b", 2), ("b", "a", -3)), True)
        self.check_settled((("b", "a", -3), ("a", "b", 2)), True)

    def test_a_ring_of_many(self):
        names = [one + other for one in "abcdefghij" for other in "klmnop"]
        for most, contrary in ((0, False), (-1, True)):
            bounds = tuple(zip(names, names[1:], [0] * len(names))) + ((names[-1], names[0], most),)
            self.check_settled(bounds, contrary)
            self.check_settled(bounds[::-1], contrary)
            self.check_settled(bounds + (("0", names[7], 3), (names[7], "x", -9)), contrary)

    def test_a_ring_that_other_bounds_lead_to(self):
        self.check_settled((("x", "y", -5), ("y", "a", -5), ("a", "b", 2), ("b", "a", -3)), True)
        self.check_settled((("a", "b", 2), ("b", "a", -3), ("a", "x", -50), ("x", "y", -5)), True)

    def test_by_way_of_zero(self):
        self.check_settled((("a", "0", 3), ("0", "b", -4), ("b", "a", 0)), True)
        self.check_settled((("a", "0", 3), ("0", "b", -3), ("b", "a", 0)), False)

    def test_all_small_bounds(self):
        for bounds in small_bounds():
            self.check_settled(bounds, all_sums(bounds) is None)

    def test_greater_bounds(self):
        found = {True: 0, False: 0}
        for bounds in greater_bounds():
            contrary = all_sums(bounds) is None
            found[contrary] += 1
            self.check_settled(bounds, contrary)
        self.assertGreater(min(found.values()), 50)

    def test_a_long_row(self):
        names = [one + two + three for one in "abcdefg" for two in "abcdefg" for three in "abcdefg"]
        bounds = tuple(zip(names, names[1:], [-999999999] * len(names)))
        self.check_settled(bounds, False)
        self.check_settled(bounds + ((names[-1], names[0], 0),), True)


class ShowsSettledValues(RefusingTestCase):

    def shown(self, bounds, value):
        answer = shows_settled(bounds, value)
        self.assertIs(type(answer), bool)
        return answer

    def test_any_values_that_keep_the_bounds(self):
        bounds = (("a", "b", 2), ("b", "0", 1))
        for one, other in itertools.product(range(-6, 7), repeat=2):
            value = ("values", (("0", 0), ("a", one), ("b", other)))
            self.assertIs(self.shown(bounds, value), one - other <= 2 and other <= 1)

    def test_just_the_asked_terms(self):
        bounds = (("a", "b", 2),)
        self.assertTrue(self.shown(bounds, ("values", (("0", 0), ("a", 7), ("b", 5)))))
        for values in (
            (("a", 7), ("b", 5)), (("0", 0), ("a", 2)), (("0", 0), ("b", 5)), (("0", 0),), (),
            (("0", 0), ("a", 7), ("b", 5), ("c", 0)), (("0", 0), ("a", 7), ("a!", 7), ("b", 5)),
            (("0", 0), ("a!", 7), ("b", 5)), (("0", 0), ("a", 7), ("b", 5), ("b!", 5)),
        ):
            self.assertFalse(self.shown(bounds, ("values", values)))

    def test_no_bounds(self):
        self.assertTrue(self.shown((), ("values", (("0", 0),))))
        for values in ((), (("0", 1),), (("0", 0), ("0", 0)), (("0", 0), ("a", 0)), ("0", 0), ("0", "0")):
            self.assertFalse(self.shown((), ("values", values)))

    def test_ascending(self):
        bounds = (("a", "b", 2), ("a!", "b", 9))
        right = (("0", 0), ("a", 1), ("a!", 1), ("b", 1))
        for values in itertools.permutations(right):
            self.assertIs(self.shown(bounds, ("values", values)), values == right)
        for pair in right:
            self.assertFalse(self.shown(bounds, ("values", tuple(sorted(right + (pair,))))))
            self.assertFalse(self.shown(bounds, ("values", tuple(sorted(right + ((pair[0], 2),))))))

    def test_zero_is_zero(self):
        bounds = (("a", "b", 2),)
        for shift in (-1, 1, 5):
            self.assertFalse(self.shown(bounds, ("values", (("0", shift), ("a", shift), ("b", shift)))))

    def test_a_bool_is_no_integer(self):
        bounds = (("a", "b", 0),)
        self.assertTrue(self.shown(bounds, ("values", (("0", 0), ("a", 1), ("b", 1)))))
        self.assertFalse(self.shown(bounds, ("values", (("0", False), ("a", 1), ("b", 1)))))
        self.assertFalse(self.shown(bounds, ("values", (("0", 0), ("a", True), ("b", 1)))))
        self.assertFalse(self.shown(bounds, ("values", (("0", 0), ("a", 1), ("b", True)))))

    def test_a_list_is_no_tuple(self):
        for value in (
            ["values", (("0", 0),)], ("values", [("0", 0)]), ("values", (["0", 0],)), ["values", [["0", 0]]],
            ("values", {"0": 0}), (["values"], (("0", 0),)), ("values", (("0", [0]),)), ("values", ((("0",), 0),)),
        ):
            self.assertFalse(self.shown((), value))

    def test_values_of_contrary_bounds_are_never_right(self):
        for one, other in itertools.product(range(-4, 5), repeat=2):
            self.assertFalse(self.shown(CONTRARY, ("values", (("0", 0), ("a", one), ("b", other)))))

    def test_great_values(self):
        great = 10 ** 60
        self.assertTrue(self.shown((("a", "b", 0),), ("values", (("0", 0), ("a", great), ("b", great)))))
        self.assertFalse(self.shown((("a", "b", 0),), ("values", (("0", 0), ("a", great + 1), ("b", great)))))


class ShowsSettledRings(RefusingTestCase):

    def shown(self, bounds, ring):
        answer = shows_settled(bounds, ("ring", ring))
        self.assertIs(type(answer), bool)
        return answer

    def test_begun_anywhere(self):
        bounds = (("a", "b", 2), ("b", "c", 3), ("c", "a", -6), ("0", "a", 1))
        self.assertTrue(self.shown(bounds, bounds[:3]))
        self.assertTrue(self.shown(bounds, bounds[1:3] + bounds[:1]))
        self.assertTrue(self.shown(bounds, bounds[2:3] + bounds[:2]))
        for steps in (bounds, bounds[:2], bounds[1:3], bounds[:1], bounds[3:], (), bounds[3:] + bounds[:3]):
            self.assertFalse(self.shown(bounds, steps))
        self.assertFalse(self.shown(bounds, bounds[2::-1]))

    def test_the_sum_is_below_zero(self):
        for most in range(-5, 3):
            bounds = (("a", "b", 2), ("b", "a", most))
            self.assertIs(self.shown(bounds, bounds), most < -2)

    def test_a_bound_more_than_once(self):
        for many in range(1, 6):
            self.assertTrue(self.shown(CONTRARY, CONTRARY * many))
            self.assertTrue(self.shown(CONTRARY, (CONTRARY * many)[1:] + CONTRARY[:1]))
            self.assertFalse(self.shown(CONTRARY, CONTRARY * many + CONTRARY[:1]))
        self.assertTrue(self.shown(CONTRARY, CONTRARY * 5000))

    def test_through_a_term_more_than_once(self):
        bounds = (("a", "b", 1), ("b", "a", 0), ("a", "c", 4), ("c", "a", -6))
        self.assertTrue(self.shown(bounds, bounds))
        self.assertTrue(self.shown(bounds, bounds[2:] + bounds[:2]))
        self.assertTrue(self.shown(bounds, bounds[1:] + bounds[:1]))
        self.assertFalse(self.shown(bounds, bounds[:2]))
        self.assertFalse(self.shown(bounds, bounds[:2] * 2 + bounds[2:]))
        self.assertTrue(self.shown(bounds, bounds[2:] * 2 + bounds[:2] * 3))

    def test_of_these_bounds(self):
        self.assertFalse(self.shown((), CONTRARY))
        self.assertFalse(self.shown(CONTRARY[:1], CONTRARY))
        self.assertFalse(self.shown((("a", "b", 1), ("b", "a", -3)), CONTRARY))
        self.assertFalse(self.shown((("a", "c", 2), ("c", "a", -3)), CONTRARY))
        self.assertFalse(self.shown(CONTRARY, (("a", "b", 1), ("b", "a", -3))))
        self.assertFalse(self.shown(CONTRARY, (("a", "b", 2), ("b", "a", -4))))
        self.assertFalse(self.shown((("a", "b", 2), ("b", "c", -3)), (("a", "b", 2), ("b", "a", -3))))

    def test_each_one_of_bounds_that_stand_twice(self):
        bounds = (("a", "b", 2), ("a", "b", 1), ("b", "a", -2))
        self.assertTrue(self.shown(bounds, bounds[1:]))
        self.assertFalse(self.shown(bounds, (bounds[0], bounds[2])))
        self.assertTrue(self.shown(bounds, (bounds[0], bounds[2], bounds[1], bounds[2])))
        self.assertTrue(self.shown(bounds + bounds, bounds[1:] * 2))

    def test_a_bool_is_no_integer(self):
        bounds = (("a", "b", 1), ("b", "a", -3), ("b", "c", 0), ("c", "b", -1))
        self.assertTrue(self.shown(bounds, bounds[:2]))
        self.assertFalse(self.shown(bounds, (("a", "b", True), bounds[1])))
        self.assertTrue(self.shown(bounds, bounds[2:]))
        self.assertFalse(self.shown(bounds, (("b", "c", False), bounds[3])))

    def test_a_list_is_no_tuple(self):
        self.assertFalse(self.shown(CONTRARY, list(CONTRARY)))
        self.assertFalse(self.shown(CONTRARY, (list(CONTRARY[0]), CONTRARY[1])))
        self.assertFalse(self.shown(CONTRARY, (CONTRARY[0], list(CONTRARY[1]))))
        self.assertFalse(shows_settled(CONTRARY, ["ring", CONTRARY]))
        self.assertFalse(shows_settled(CONTRARY, ("ring", {0: CONTRARY[0], 1: CONTRARY[1]})))


class ShowsSettledAnyValue(RefusingTestCase):

    def test_odd_values(self):
        for bounds in ((), SOME, CONTRARY):
            for value in odd_values():
                for asked in (value, ("values", value), ("ring", value), ("values", (value,)), ("ring", (value,)),
                              ("values", (("0", 0), value)), ("ring", CONTRARY + (value,)),
                              ("ring", (value,) + CONTRARY), (value, value), (value, ())):
                    with self.subTest(bounds=bounds, value=asked):
                        self.assertIs(shows_settled(bounds, asked), False)
            for value in odd_but(str):
                for asked in ((value, CONTRARY), (value, (("0", 0),)), (value, settled(bounds)[1])):
                    with self.subTest(bounds=bounds, value=asked):
                        self.assertIs(shows_settled(bounds, asked), False)

    def test_other_words(self):
        right = (("0", 0), ("a", 0), ("b", 0), ("c", 0))
        for word in ("value", "Values", "values ", "rings", "", "ring", "sure"):
            self.assertIs(shows_settled(SOME, (word, right)), False)
        for word in ("values", "Ring", "ring ", "way", "", "never"):
            self.assertIs(shows_settled(CONTRARY, (word, CONTRARY)), False)

    def test_too_few_and_too_many_parts(self):
        for value in (("values",), ("ring",), ("values", (("0", 0),), ()), ("ring", CONTRARY, ()), (CONTRARY,)):
            self.assertIs(shows_settled((), value), False)
            self.assertIs(shows_settled(CONTRARY, value), False)

    def test_right_results_changed_in_one_place(self):
        for bounds in ((), SOME, CONTRARY, (("a", "0", 1), ("0", "a!", -1), ("a!", "a", -1))):
            result = settled(bounds)
            self.assertIs(shows_settled(bounds, result), True)
            for path, changed in with_each_part_changed(result):
                with self.subTest(bounds=bounds, path=path, changed=changed):
                    self.assertIs(shows_settled(bounds, changed), False)

    def test_very_deep_and_very_great_values(self):
        deep = nested((), 50000, lambda value: (value,))
        for value in (deep, (deep, deep), ("values", deep), ("values", (("0", deep),)), ("values", ((deep, 0),)),
                      ("ring", deep), ("ring", (deep,)), ("ring", (("a", "b", deep),)), ("ring", ((deep, "b", 2),)),
                      ("ring", CONTRARY + (deep,)), ("values", (("0", 0), deep))):
            self.assertIs(shows_settled(CONTRARY, value), False)
        self.assertIs(shows_settled((), ("values", (("0", 0),) * 100000)), False)
        self.assertIs(shows_settled(CONTRARY, ("ring", CONTRARY * 100000)), True)

    def test_it_does_not_ask_that_the_result_is_its_own(self):
        self.assertIs(shows_settled(SOME, ("values", (("0", 0), ("a", -70), ("b", 12), ("c", 9)))), True)
        self.assertIs(shows_settled((), ("values", (("0", 0),))), True)


class WrongTerms(RefusingTestCase):

    def test_one(self):
        for value in list(WRONG_TERMS) + odd_but(str):
            with self.subTest(value=value):
                self.refuses(BadTerm, value, least_way, SOME, value, "c")
                self.refuses(BadTerm, value, least_way, (), value, "c")

    def test_other(self):
        for value in list(WRONG_TERMS) + odd_but(str):
            with self.subTest(value=value):
                self.refuses(BadTerm, value, least_way, SOME, "a", value)
                self.refuses(BadTerm, value, least_way, bounds=(), one="a", other=value)

    def test_one_ahead_of_other(self):
        self.refuses(BadTerm, "A", least_way, SOME, "A", "B")
        self.refuses(BadTerm, None, least_way, SOME, None, "c")
        for value in odd_but(str):
            self.refuses(BadTerm, value, least_way, SOME, value, [value])
        self.refuses(BadTerm, "0!", least_way, SOME, "0!", "0!")

    def test_other_also_if_it_is_one(self):
        for term in RIGHT_TERMS:
            self.refuses(BadTerm, term, least_way, SOME, term, term)
            self.refuses(BadTerm, term, least_way, (), one=term, other=term)

    def test_ahead_of_contrary(self):
        self.refuses(BadTerm, 1, least_way, CONTRARY, 1, "b")
        for value in odd_but(str):
            self.refuses(BadTerm, value, least_way, CONTRARY, "a", value)
        self.refuses(BadTerm, "a", least_way, CONTRARY, "a", "a")

    def test_right_terms(self):
        for one, other in itertools.permutations(RIGHT_TERMS, 2):
            self.assertIsNone(least_way((), one, other))
            self.assertEqual(least_way(((one, other, -4),), one, other), (-4, ((one, other, -4),)))
            self.assertIsNone(least_way(((one, other, -4),), other, one))


class LeastWay(Checked):

    def check_least_way(self, bounds, one, other, least):
        result = least_way(bounds, one, other)
        if least is None:
            self.assertIsNone(result)
            return
        self.assertIs(type(result), tuple)
        self.assertEqual(len(result), 2)
        self.assertEqual(result[0], least)
        self.assertIs(type(result[0]), int)
        self.check_way(bounds, result[1], one, other)
        self.assertEqual(sum(most for _, _, most in result[1]), least)
        self.assertEqual(least_way(bounds, one, other), result)

    def check_all_ways(self, bounds):
        sums = all_sums(bounds)
        for one, other in itertools.permutations(("0", "a", "a!", "b", "b!", "c", "dd", "dd!"), 2):
            if sums is None:
                self.refuses(Contrary, bounds, least_way, bounds, one, other)
            else:
                self.check_least_way(bounds, one, other, sums.get((one, other)))

    def test_no_bounds(self):
        self.assertIsNone(least_way((), "a", "0"))
        self.assertIsNone(least_way((), "0", "a"))

    def test_terms_that_stand_in_no_bound(self):
        self.assertIsNone(least_way(SOME, "a", "x"))
        self.assertIsNone(least_way(SOME, "x", "a"))
        self.assertIsNone(least_way(SOME, "x", "y"))
        self.assertIsNone(least_way(SOME, "a!", "c"))
        self.assertIsNone(least_way(SOME, "a", "0"))

    def test_a_way_goes_in_one_sense_only(self):
        self.check_least_way(SOME, "a", "c", 5)
        self.check_least_way(SOME, "c", "a", None)
        self.check_least_way(SOME, "b", "a", None)

    def test_the_least_of_bounds_that_stand_twice(self):
        for mosts in itertools.permutations((4, 1, 3)):
            bounds = tuple(("a", "b", most) for most in mosts)
            self.assertEqual(least_way(bounds, "a", "b"), (1, (("a", "b", 1),)))

    def test_a_longer_way_of_a_lesser_sum(self):
        bounds = (("a", "e", 3), ("a", "b", 1), ("b", "c", 1), ("c", "d", 1), ("d", "e", -1))
        self.assertEqual(least_way(bounds, "a", "e"), (2, bounds[1:]))
        self.assertEqual(least_way(bounds[::-1], "a", "e"), (2, bounds[1:]))

    def test_zero_is_a_term_as_others_are(self):
        bounds = (("a", "0", 4), ("0", "b", -7))
        self.assertEqual(least_way(bounds, "a", "b"), (-3, bounds))
        self.assertEqual(least_way(bounds, "0", "b"), (-7, bounds[1:]))
        self.assertEqual(least_way(bounds, "a", "0"), (4, bounds[:1]))

    def test_rings_with_a_sum_of_zero(self):
        bounds = (("a", "b", 2), ("b", "a", -2), ("b", "c", 0), ("c", "b", 0))
        self.check_least_way(bounds, "a", "c", 2)
        self.check_least_way(bounds, "c", "a", -2)
        self.check_least_way(bounds[::-1], "a", "c", 2)

    def test_contrary_bounds(self):
        for bounds in (CONTRARY, CONTRARY[::-1], CONTRARY + SOME[1:], (("a", "0", -1), ("0", "a", 0))):
            self.refuses(Contrary, bounds, least_way, bounds, "a", "b")
            self.refuses(Contrary, bounds, least_way, bounds, "b", "a")

    def test_a_ring_that_lies_on_no_way(self):
        bounds = CONTRARY + (("x", "y", 1),)
        self.refuses(Contrary, bounds, least_way, bounds, "x", "y")
        self.refuses(Contrary, bounds, least_way, bounds, "y", "x")
        self.refuses(Contrary, bounds, least_way, bounds, "p", "q")

    def test_all_small_bounds(self):
        for bounds in small_bounds():
            if len(bounds) < 3 or bounds[0] != bounds[1]:
                self.check_all_ways(bounds)

    def test_greater_bounds(self):
        for bounds in greater_bounds():
            self.check_all_ways(bounds)

    def test_a_long_row(self):
        names = [one + two for one in "abcdefghijklmn" for two in "abcdefghijklmn"]
        bounds = tuple(zip(names, names[1:], range(-90, 900)))
        for asked in (bounds, bounds[::-1]):
            self.assertEqual(least_way(asked, names[0], names[-1]), (sum(row[2] for row in bounds), bounds))
            self.assertIsNone(least_way(asked, names[-1], names[0]))
