"""Section 6: the text of a plan, and class Plan."""

import itertools
import unittest

from tests.odd import RefusingTestCase, odd_but, odd_values
from wobblesnap.books import Book
from wobblesnap.errors import BadNumber, BadPlan, NoPoint
from wobblesnap.plans import Plan

ROOM = "hand 3\npoint a at 0 0\npoint b by a 60 0\npoint c by b 0 40\npoint d cross a c"
SIX = "hand 0\npoint a at 1 1\npoint b at 2 2\npoint c at 3 3\npoint d at 4 4\npoint e at 5 5\npoint f at 6 6"
FULL = (
    "hand 2\npoint a at -5 7\npoint b by a 60 -1 within 0\nwall a b\npoint c cross b b within 99\nwall c a\nwall a b\n"
    "point d cross a c\npoint e by d -999 999\nwall e d\npoint f at 999 -999 within 1"
)
LONG = "hand 1\npoint abcdefgh at 0 0\npoint zzzzzzzz by abcdefgh 1 1\nwall zzzzzzzz abcdefgh"


class RightTexts(unittest.TestCase):

    def test_the_plan_of_section_7(self):
        plan = Plan(ROOM)
        self.assertEqual(plan.text, ROOM)
        self.assertEqual(plan.hand, 3)
        self.assertEqual(plan.points, ("a", "b", "c", "d"))
        self.assertEqual(plan.walls, ())
        self.assertEqual(plan["d"], (("cross", "a", "c"), 3))

    def test_a_plan_of_all_forms(self):
        plan = Plan(FULL)
        self.assertEqual(plan.text, FULL)
        self.assertEqual(plan.hand, 2)
        self.assertEqual(plan.points, ("a", "b", "c", "d", "e", "f"))
        self.assertEqual(plan.walls, (("a", "b"), ("c", "a"), ("a", "b"), ("e", "d")))
        self.assertEqual(
            [plan[name] for name in "abcdef"],
            [(("at", -5, 7), 2), (("by", "a", 60, -1), 0), (("cross", "b", "b"), 99), (("cross", "a", "c"), 2),
             (("by", "d", -999, 999), 2), (("at", 999, -999), 1)],
        )

    def test_kinds(self):
        plan = Plan(FULL)
        self.assertEqual([type(plan.text), type(plan.hand), type(plan.points), type(plan.walls)],
                         [str, int, tuple, tuple])
        self.assertEqual({type(wall) for wall in plan.walls}, {tuple})
        for name in plan.points:
            self.assertEqual([type(plan[name]), type(plan[name][0]), type(plan[name][1])], [tuple, tuple, int])

    def test_a_text_by_name(self):
        self.assertEqual(Plan(text=ROOM).points, ("a", "b", "c", "d"))

    def test_each_bound(self):
        for bound in range(100):
            self.assertEqual(Plan(f"hand {bound}\npoint a at 0 0").hand, bound)
            self.assertEqual(Plan(f"hand {bound}\npoint a at 0 0")["a"], (("at", 0, 0), bound))
            self.assertEqual(Plan(f"hand 7\npoint a at 0 0 within {bound}")["a"], (("at", 0, 0), bound))
            self.assertEqual(Plan(f"hand 7\npoint a at 0 0 within {bound}").hand, 7)

    def test_each_number_of_a_place(self):
        for number in range(-999, 1000):
            plan = Plan(f"hand 1\npoint a at {number} {-number}\npoint b by a {-number} {number} within 5")
            self.assertEqual([plan["a"], plan["b"]],
                             [(("at", number, -number), 1), (("by", "a", -number, number), 5)])

    def test_one_to_six_points(self):
        lines = SIX.split("\n")
        for many in range(1, 7):
            plan = Plan("\n".join(lines[:many + 1]))
            self.assertEqual(plan.points, tuple("abcdef"[:many]))
            self.assertEqual(len(plan), many)

    def test_none_to_four_walls(self):
        walls = (("a", "b"), ("b", "a"), ("a", "b"), ("a", "b"))
        for many in range(5):
            lines = ["hand 1", "point a at 0 0", "point b at 9 9"] + ["wall " + " ".join(wall) for wall in walls[:many]]
            self.assertEqual(Plan("\n".join(lines)).walls, walls[:many])
            self.assertEqual(Plan("\n".join(lines + ["point c cross a b"])).walls, walls[:many])

    def test_words_of_lines_as_names(self):
        names = ("point", "at", "by", "cross", "within", "wall")
        lines = ["point point at 1 2", "point at at 3 4 within 5", "point by by at 6 7", "point cross cross by at",
                 "point within by cross 8 9 within 1", "wall within cross", "point wall cross point within within 3",
                 "wall wall within", "wall at by"]
        plan = Plan("\n".join(["hand 2"] + lines))
        self.assertEqual(plan.points, names)
        self.assertEqual(plan.walls, (("within", "cross"), ("wall", "within"), ("at", "by")))
        self.assertEqual([plan[name] for name in names],
                         [(("at", 1, 2), 2), (("at", 3, 4), 5), (("by", "at", 6, 7), 2), (("cross", "by", "at"), 2),
                          (("by", "cross", 8, 9), 1), (("cross", "point", "within"), 3)])
        plan = Plan("hand 4\npoint within at 0 0\npoint a cross within within\npoint b cross a within within 2\n"
                    "wall within a\npoint hand at 1 1")
        self.assertEqual(plan["a"], (("cross", "within", "within"), 4))
        self.assertEqual(plan["b"], (("cross", "a", "within"), 2))
        self.assertEqual(plan.walls, (("within", "a"),))

    def test_long_names(self):
        plan = Plan(LONG)
        self.assertEqual(plan.points, ("abcdefgh", "zzzzzzzz"))
        self.assertEqual(plan.walls, (("zzzzzzzz", "abcdefgh"),))


class WrongTexts(RefusingTestCase):

    def bad(self, number, text):
        with self.subTest(text):
            self.refuses(BadPlan, number, Plan, text)
            self.refuses(BadPlan, number, Plan, text=text)

    def test_no_string(self):
        for value in odd_but(str):
            self.bad(0, value)
        for value in (ROOM.split("\n"), tuple(ROOM.split("\n")), (ROOM,), {ROOM: 1}, Plan(ROOM)):
            self.bad(0, value)

    def test_odd_strings(self):
        for value in odd_values():
            if isinstance(value, str):
                self.bad(1, value)

    def test_a_line_is_missing_at_the_end(self):
        for bound in (0, 3, 99):
            self.bad(2, f"hand {bound}")

    def test_the_first_line(self):
        for line in (
            "", " ", "hand", "hand ", " hand 3", "hand 3 ", "hand  3", "hand 3 3", "hand3", "Hand 3", "hands 3",
            "hand -1", "hand -0", "hand +3", "hand 03", "hand 00", "hand 100", "hand 1000000000", "hand three",
            "hand 3.0", "hand\t3", "hand 1_0", "hand " + "9" * 3000, "hand 3 within 3", "3", "hand within 3",
            "point a at 0 0", "among eldest", "hand 3\r", "hand 3,", "hand !", "hand 0x1",
        ):
            self.bad(1, line)
            self.bad(1, line + "\npoint a at 0 0")
            self.bad(1, line + "\nnothing")

    def test_hand_stands_once_and_first(self):
        self.bad(2, "hand 3\nhand 3\npoint a at 0 0")
        self.bad(3, "hand 3\npoint a at 0 0\nhand 3")
        self.bad(1, "point a at 0 0\nhand 3")

    def test_wrong_lines_of_points(self):
        for line in (
            "", " ", "point", "point ", "point p", "point p at", "point p at 1", "point p at 1 2 3", "point p at 1 ",
            "point p at  1 2", " point p at 1 2", "point p at 1 2 ", "point  p at 1 2", "point p  at 1 2", "p at 1 2",
            "Point p at 1 2", "point P at 1 2", "point p At 1 2", "point p1 at 1 2", "point p! at 1 2",
            "point abcdefghi at 1 2", "point  at 1 2", "point 0 at 1 2", "point at 1 2", "point p at p 1 2",
            "point p at a 1 2", "point p at a 1", "point p at 1000 2", "point p at -1000 2", "point p at 1 1000",
            "point p at 1 -1000", "point p at -0 2", "point p at 1 -0", "point p at 01 2", "point p at 1 02",
            "point p at -01 2", "point p at +1 2", "point p at 1 +2", "point p at --1 2", "point p at - 2",
            "point p at 1.0 2", "point p at 1, 2", "point p at x y", "point p at 1 2-", "point p at 1e1 2",
            "point p at 1_0 2", "point p at " + "9" * 3000 + " 2", "point p at 1 2 within", "point p at 1 2 within ",
            "point p at 1 2 within 100", "point p at 1 2 within -1", "point p at 1 2 within -0",
            "point p at 1 2 within 01", "point p at 1 2 within 00", "point p at 1 2 within x",
            "point p at 1 2 within 3 3", "point p at 1 2  within 3", "point p at 1 2 within  3",
            "point p at 1 2 within 3 ", "point p at 1 2 Within 3", "point p at 1 2 3 within", "point p within 3 at 1 2",
            "point p at within 3 1 2", "point p at 1 2 within 3 within 3", "point p at 1 2 within a",
            "point p by", "point p by a", "point p by a 1", "point p by 1 2", "point p by a 1 2 3", "point p by p 1 2",
            "point p by q 1 2", "point p by z 1 2", "point p by A 1 2", "point p by a b 1", "point p by a 1 b",
            "point p by a! 1 2", "point p by 0 1 2", "point p by a 1000 2", "point p by a 1 -1000",
            "point p by a -0 2", "point p by a 01 2", "point p by a 1 2 within 100", "point p by a 1 2 within",
            "point p by a 1 within 3", "point p by a within 3", "point p by  a 1 2", "point p by a b 1 2",
            "point p cross", "point p cross a", "point p cross a p", "point p cross p a", "point p cross a q",
            "point p cross q a", "point p cross a b a", "point p cross a 1", "point p cross 1 2", "point p cross a b 1",
            "point p cross a  b", "point p cross a b within 100", "point p cross a b within", "point p cross a! b",
            "point p cross a within 3", "point p cross 0 0", "point p cross a A", "point p cross ab",
            "point a at 1 2", "point a by a 1 2", "point a cross a b", "point b at 9 9", "point a at 0 0",
            "point p near a 1 2", "point p a 1 2", "point p to 1 2", "point p wall a b", "points p at 1 2",
            "corner 5", "among eldest", "nothing", "point p q at 1 2", "point p\tat 1 2", "point p at 1 2\r",
        ):
            self.bad(4, "hand 3\npoint a at 0 0\npoint b by a 60 0\n" + line)
            self.bad(4, "hand 3\npoint a at 0 0\npoint b by a 60 0\n" + line + "\npoint q at 1 1")
            self.bad(4, "hand 3\npoint a at 0 0\npoint b by a 60 0\n" + line + "\nnothing")

    def test_wrong_lines_of_walls(self):
        for line in (
            "wall", "wall ", "wall a", "wall a ", "wall a b c", "wall a a", "wall b b", "wall a p", "wall p a",
            "wall p p", "wall p q", " wall a b", "wall a b ", "wall  a b", "wall a  b", "Wall a b", "walls a b",
            "wall A b", "wall a! b", "wall a 0", "wall 0 0", "wall ab", "wall a b within 3", "wall a b 3", "wall a\tb",
            "wall a,b", "a b", "wall 1 2",
        ):
            self.bad(4, "hand 3\npoint a at 0 0\npoint b by a 60 0\n" + line)
            self.bad(4, "hand 3\npoint a at 0 0\npoint b by a 60 0\n" + line + "\npoint p at 1 1\npoint q at 2 2")

    def test_what_stands_below(self):
        self.bad(2, "hand 3\npoint b by a 60 0\npoint a at 0 0")
        self.bad(2, "hand 3\npoint b cross a a\npoint a at 0 0")
        self.bad(3, "hand 3\npoint a at 0 0\nwall a b\npoint b at 1 1")
        self.bad(2, "hand 3\nwall a b\npoint a at 0 0\npoint b at 1 1")
        self.bad(2, "hand 3\nwall a b")
        self.bad(2, "hand 3\npoint a by a 0 0")
        self.bad(2, "hand 3\npoint a cross a a")

    def test_the_sequence_of_names_and_walls(self):
        lines = FULL.split("\n")
        for one, other in ((1, 2), (2, 3), (2, 4), (3, 4), (4, 5)):
            swapped = list(lines)
            swapped[one], swapped[other] = swapped[other], swapped[one]
            with self.subTest(one=one, other=other):
                if (one, other) == (3, 4):
                    self.assertEqual(Plan("\n".join(swapped)).walls, Plan(FULL).walls)
                else:
                    self.bad(one + 1, "\n".join(swapped))

    def test_a_line_out(self):
        # The next line then asks for a point that is not there any more.
        for number in (1, 2, 3, 5, 8, 9):
            lines = FULL.split("\n")
            line = lines.pop(number - 1)
            self.bad(number, "\n".join(lines))
            self.bad(number, "\n".join(lines + [line]))

    def test_a_line_twice(self):
        lines = FULL.split("\n")
        for number, line in enumerate(lines, 1):
            twice = "\n".join(lines[:number] + [line] + lines[number:])
            if line.startswith("wall"):
                # There are five walls then: the last one of them is one too many.
                self.bad(11, twice)
            else:
                self.bad(number + 1, twice)

    def test_a_line_at_the_beginning(self):
        lines = FULL.split("\n")
        for at, line in enumerate(lines[1:], 1):
            self.bad(1, "\n".join([line] + lines[:at] + lines[at + 1:]))

    def test_empty_lines_and_a_line_feed_at_the_end(self):
        self.bad(2, "hand 3\n")
        self.bad(2, "hand 3\n\npoint a at 0 0")
        self.bad(3, "hand 3\npoint a at 0 0\n")
        self.bad(3, "hand 3\npoint a at 0 0\n\npoint b at 1 1")
        self.bad(1, "\nhand 3\npoint a at 0 0")
        self.bad(1, "\n")
        self.bad(12, FULL + "\n")

    def test_seven_points(self):
        self.bad(8, SIX + "\npoint g at 7 7")
        self.bad(8, SIX + "\npoint g by a 7 7\nnothing")
        self.bad(12, FULL + "\npoint g cross a a")
        self.assertEqual(len(Plan(SIX)), 6)

    def test_five_walls(self):
        walls = "\nwall a b" * 4
        self.assertEqual(len(Plan(SIX + walls).walls), 4)
        self.bad(12, SIX + walls + "\nwall a b")
        self.bad(12, SIX + walls + "\nwall c d\nnothing")
        self.bad(12, FULL + "\nwall a f")

    def test_the_first_one_of_several_wrong_lines(self):
        self.bad(1, "hand\npoint\nwall")
        self.bad(2, "hand 3\npoint\nwall")
        self.bad(3, "hand 3\npoint a at 0 0\nwall a a\npoint")
        self.bad(3, "hand 3\npoint a at 0 0\npoint a at 0 0\nwall a a\n")


class Asked(RefusingTestCase):

    def setUp(self):
        self.plan = Plan(FULL)
        self.small = Plan("hand 0\npoint x at 1 0")

    def test_an_aim_and_a_bound_by_a_name(self):
        self.assertEqual(self.small["x"], (("at", 1, 0), 0))
        self.assertEqual(self.plan["c"], (("cross", "b", "b"), 99))

    def test_no_point(self):
        others = ["b", "xx", "x!", "X", "x ", "at", "hand", "0", "1", ["x"], ("x",), {"x": 1}, ("at", 1, 0), self.small]
        for value in odd_values() + others:
            with self.subTest(value=value):
                self.refuses(NoPoint, value, lambda: self.small[value])
        for name in ("g", "within", "hand", "aa", "a!"):
            self.refuses(NoPoint, name, lambda: self.plan[name])

    def test_how_many(self):
        self.assertEqual([len(self.plan), len(self.small), len(Plan(ROOM))], [6, 1, 4])

    def test_in(self):
        for name in "abcdef":
            self.assertIs(name in self.plan, True)
            self.assertIs(name not in self.plan, False)
        self.assertIs("x" in self.small, True)

    def test_not_in(self):
        others = ["b", "xx", "x!", "X", "", "at", "0", 0, 1, ["x"], ("x",), {"x": 1}, self.small, self.small.text]
        for value in odd_values() + others:
            with self.subTest(value=value):
                self.assertIs(value in self.small, False)
                self.assertIs(value not in self.small, True)


class ByHand(RefusingTestCase):

    def test_each_bound(self):
        rest = FULL.partition("\n")[2]
        for bound in range(100):
            plan = Plan(FULL).by_hand(bound)
            self.assertIs(type(plan), Plan)
            self.assertEqual(plan.text, f"hand {bound}\n{rest}")
            self.assertEqual(plan, Plan(f"hand {bound}\n{rest}"))
            self.assertEqual(plan.hand, bound)
            self.assertEqual(Plan(FULL).by_hand(bound=bound), plan)

    def test_lines_with_within_stay_as_they_are(self):
        plan = Plan(FULL).by_hand(50)
        self.assertEqual([plan[name][1] for name in "abcdef"], [50, 0, 99, 50, 50, 1])
        self.assertEqual([plan[name][0] for name in "abcdef"], [Plan(FULL)[name][0] for name in "abcdef"])
        self.assertEqual(plan.walls, Plan(FULL).walls)

    def test_the_plan_itself_stays_as_it_was(self):
        plan = Plan(FULL)
        other = plan.by_hand(9)
        self.assertEqual((plan.text, plan.hand, plan["a"]), (FULL, 2, (("at", -5, 7), 2)))
        self.assertIs(plan == other, False)
        self.assertEqual(other.by_hand(2), plan)
        self.assertEqual(plan.by_hand(2), plan)

    def test_bad_number(self):
        plan = Plan(FULL)
        for value in [value for value in odd_values() if value not in (0, 1)] + [
            True, False, -1, 100, 101, -99, 1000000, "3", "hand 3", (3,), [3], {3: 3}, plan,
        ]:
            with self.subTest(value=value):
                self.refuses(BadNumber, value, plan.by_hand, value)
                self.refuses(BadNumber, value, plan.by_hand, bound=value)
        self.assertEqual(plan.text, FULL)


class Alike(unittest.TestCase):

    def test_equal_by_text(self):
        self.assertIs(Plan(FULL) == Plan("".join(list(FULL))), True)
        self.assertIs(Plan(FULL) != Plan("".join(list(FULL))), False)
        plan = Plan(FULL)
        self.assertIs(plan == plan, True)

    def test_unequal_by_text(self):
        texts = (FULL, ROOM, SIX, LONG, "hand 3\npoint a at 0 0", "hand 4\npoint a at 0 0",
                 "hand 3\npoint a at 0 0 within 3", "hand 3\npoint b at 0 0", "hand 3\npoint a at 0 1")
        for one, other in itertools.permutations(texts, 2):
            self.assertIs(Plan(one) == Plan(other), False)
            self.assertIs(Plan(one) != Plan(other), True)

    def test_equal_to_nothing_else(self):
        plan = Plan(FULL)
        parts = [plan.text, plan.points, plan.walls, plan.hand, (plan,), [plan], {"text": plan.text}, len(plan),
                 Book("among eldest\nlevel 3")]
        for value in odd_values() + parts:
            with self.subTest(value=value):
                self.assertIs(plan == value, False)
                self.assertIs(value == plan, False)
                self.assertIs(plan != value, True)
                self.assertIs(value != plan, True)


class OtherOperators(unittest.TestCase):

    def test_they_raise_type_error(self):
        for call in (
            lambda plan: plan + plan, lambda plan: plan - 1, lambda plan: 2 * plan, lambda plan: plan // plan,
            lambda plan: plan % 2, lambda plan: plan ** 2, lambda plan: plan & plan, lambda plan: plan | plan,
            lambda plan: plan ^ plan, lambda plan: plan << 1, lambda plan: plan >> 1, lambda plan: -plan,
            lambda plan: +plan, lambda plan: ~plan, lambda plan: abs(plan), lambda plan: plan < plan,
            lambda plan: plan <= plan, lambda plan: plan > plan, lambda plan: plan >= plan, lambda plan: plan < 1,
            lambda plan: "a" > plan, lambda plan: () + plan, lambda plan: "a" + plan, lambda plan: list(plan),
            lambda plan: [name for name in plan], lambda plan: iter(plan), lambda plan: tuple(plan),
        ):
            with self.assertRaises(TypeError):
                call(Plan(ROOM))

    def test_nothing_can_be_put_in_or_taken_out(self):
        plan = Plan(ROOM)
        with self.assertRaises(TypeError):
            plan["a"] = (("at", 0, 0), 3)
        with self.assertRaises(TypeError):
            del plan["a"]
        with self.assertRaises(TypeError):
            plan += plan
        self.assertEqual((plan.text, plan["a"]), (ROOM, (("at", 0, 0), 3)))
