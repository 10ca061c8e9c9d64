"""Section 13: the text of a bay, and class Bay."""

import itertools

from tests.odd import RefusingTestCase, odd_but, odd_values
from wobblesnap.books import Book
from wobblesnap.errors import BadBay
from wobblesnap.fences import Bay
from wobblesnap.plans import Plan

TEXT = "hand 1\nfrom a 0 0\nfrom b 0 10\npoint c by a 10 0\npoint d cross c b\ngoes c d"
FULL = (
    "hand 2\nfrom a 0 0\nfrom b -5 999\nwall b a\npoint c by b -999 7 within 0\nwall c a\npoint d cross c b within 2\n"
    "goes d b"
)
SHORT = "hand 0\nfrom a 0 0\npoint b by a 9 0\ngoes b"


class RightTexts(RefusingTestCase):

    def test_the_bay_of_the_examples(self):
        bay = Bay(TEXT)
        self.assertEqual(bay.text, TEXT)
        self.assertEqual(bay.hand, 1)
        self.assertEqual(bay.starts, (("a", (0, 0)), ("b", (0, 10))))
        self.assertEqual(bay.points, ("c", "d"))
        self.assertEqual(bay.walls, ())
        self.assertEqual(bay.goes, ("c", "d"))

    def test_a_bay_of_all_forms(self):
        bay = Bay(FULL)
        self.assertEqual(bay.hand, 2)
        self.assertEqual(bay.starts, (("a", (0, 0)), ("b", (-5, 999))))
        self.assertEqual(bay.points, ("c", "d"))
        self.assertEqual(bay.walls, (("b", "a"), ("c", "a")))
        self.assertEqual(bay.goes, ("d", "b"))

    def test_a_short_one(self):
        bay = Bay(text=SHORT)
        self.assertEqual([bay.hand, bay.starts, bay.points, bay.walls, bay.goes],
                         [0, (("a", (0, 0)),), ("b",), (), ("b",)])

    def test_kinds(self):
        for text in (TEXT, FULL, SHORT):
            bay = Bay(text)
            self.assertEqual([type(bay.text), type(bay.hand)], [str, int])
            self.assertEqual({type(told) for told in (bay.starts, bay.points, bay.walls, bay.goes)}, {tuple})
            for start in bay.starts:
                self.assertEqual([type(start), type(start[1]), type(start[1][0])], [tuple, tuple, int])
            self.assertEqual({type(wall) for wall in bay.walls}, {tuple} if bay.walls else set())

    def test_goes_of_all_points(self):
        names = ("a", "b", "c", "d")
        for goes in itertools.permutations(names, 2):
            bay = Bay("hand 1\nfrom a 0 0\nfrom b 1 1\npoint c by b 1 1\npoint d cross c a\ngoes " + " ".join(goes))
            self.assertEqual(bay.goes, goes)
        for name in "abc":
            self.assertEqual(Bay(f"hand 1\nfrom a 0 0\npoint b by a 1 1\npoint c by b 1 1\ngoes {name}").goes, (name,))

    def test_places_and_bounds(self):
        for number in range(-999, 1000, 37):
            bay = Bay(f"hand 1\nfrom a 0 0\nfrom b {number} {-number}\npoint c by a 1 1\ngoes a b")
            self.assertEqual(bay.starts[1], ("b", (number, -number)))
        for hand, within in itertools.product(range(3), repeat=2):
            self.assertEqual(Bay(f"hand {hand}\nfrom a 0 0\npoint b by a -999 999 within {within}\ngoes a").hand, hand)

    def test_words_of_lines_as_names(self):
        bay = Bay("hand 1\nfrom from 0 0\nfrom goes 1 1\npoint within cross goes from within 2\nwall within goes\n"
                  "point point by within 5 5 within 0\nwall goes from\ngoes goes within")
        self.assertEqual(bay.starts, (("from", (0, 0)), ("goes", (1, 1))))
        self.assertEqual(bay.points, ("within", "point"))
        self.assertEqual(bay.walls, (("within", "goes"), ("goes", "from")))
        self.assertEqual(bay.goes, ("goes", "within"))

    def test_walls_anywhere_among_the_points(self):
        for at in range(3):
            lines = ["point c by a 1 1", "point d by b 1 1"]
            lines[at:at] = ["wall a b", "wall a b"]
            bay = Bay("\n".join(["hand 1", "from a 0 0", "from b 9 9"] + lines + ["goes a b"]))
            self.assertEqual(bay.walls, (("a", "b"), ("a", "b")))

    def test_the_same_name_by_and_cross(self):
        self.assertEqual(Bay("hand 1\nfrom a 0 0\npoint b cross a a\ngoes a").points, ("b",))


class WrongTexts(RefusingTestCase):

    def bad(self, number, text):
        with self.subTest(text):
            self.refuses(BadBay, number, Bay, text)
            self.refuses(BadBay, number, Bay, text=text)

    def test_no_string(self):
        for value in odd_but(str):
            self.bad(0, value)
        for value in (TEXT.split("\n"), tuple(TEXT.split("\n")), (TEXT,), {TEXT: 1}, Bay(TEXT)):
            self.bad(0, value)

    def test_odd_strings(self):
        for value in odd_values():
            if isinstance(value, str):
                self.bad(1, value)
        self.bad(1, Plan("hand 3\npoint a at 0 0").text)
        self.bad(2, Plan("hand 2\npoint a at 0 0").text)
        self.bad(1, Book("among eldest\nlevel 3").text)

    def test_a_line_is_missing_at_the_end(self):
        for text in (TEXT, FULL, SHORT):
            lines = text.split("\n")
            for many in range(1, len(lines)):
                self.bad(many + 1, "\n".join(lines[:many]))
        self.bad(4, "hand 1\nfrom a 0 0\npoint b by a 1 1")
        self.bad(5, "hand 1\nfrom a 0 0\npoint b by a 1 1\nwall a b")

    def test_the_first_line(self):
        for line in ("", "hand", "hand 3", "hand 99", "hand -1", "hand 01", "hand 1 ", " hand 1", "hand  1", "Hand 1",
                     "hand 1 1", "from a 0 0", "hand a", "hand 1.0", "among eldest", "hand 2147483648", "hand -0"):
            self.bad(1, line)
            self.bad(1, line + "\nfrom a 0 0\npoint b by a 1 1\ngoes b")

    def test_from(self):
        rest = "\npoint c by a 1 1\ngoes c"
        for line in (
            "from a 0 1", "from a 1 0", "from a -1 0", "from a 0 -0", "from a 00 0", "from a 0", "from a", "from",
            "from a 0 0 0", "from A 0 0", "from abcdefghi 0 0", "from  0 0", "from a  0", "from a 0 0 ", " from a 0 0",
            "from a 0 x", "From a 0 0", "point a at 0 0", "wall a b", "goes a", "", "from a +0 0",
            "from a 0 0 within 1",
        ):
            self.bad(2, "hand 1\n" + line + rest)
            self.bad(2, "hand 1\n" + line)
        rest = "\npoint c by a 1 1\ngoes c a"
        for line in (
            "from a 1 1", "from a 0 0", "from b 1000 0", "from b 0 -1000", "from b -0 1", "from b 01 1", "from b 1",
            "from b 1 1 1", "from b1 1 1", "from b 1 +1", "from b 1 1 ", "From b 1 1", "from abcdefghi 1 1", "hand 1",
            "from b 12345678901234567890 0", "",
        ):
            self.bad(3, "hand 1\nfrom a 0 0\n" + line + rest)
        self.bad(4, "hand 1\nfrom a 0 0\nfrom b 1 1\nfrom c 2 2\npoint d by a 1 1\ngoes c a")
        self.bad(4, "hand 1\nfrom a 0 0\npoint c by a 1 1\nfrom b 1 1\ngoes c a")
        self.bad(4, "hand 1\nfrom a 0 0\npoint b by a 1 1\nhand 1\npoint c by a 1 1\ngoes c")

    def test_points(self):
        for line in (
            "point c at 1 1", "point c at 0 0 within 1", "point c by d 1 1", "point c by c 1 1", "point a by b 1 1",
            "point b by a 1 1", "point c by a 1", "point c by a 1 1 within 3", "point c by a 1 1 within 99",
            "point c by a 1 1 within", "point c by a 1 1 within 01", "point c by a 1000 1", "point c by a 1 1 1",
            "point c cross a", "point c cross a d", "point c cross a b 1", "point C by a 1 1",
            "point c cross a b within 3",
            "point c  by a 1 1", "point c by a 1 1 ", "points c by a 1 1", "point c by a -0 1", "point c to a 1 1", "",
            "point c", "point",
        ):
            self.bad(4, "hand 1\nfrom a 0 0\nfrom b 1 1\n" + line + "\ngoes a b")
            self.bad(5, "hand 1\nfrom a 0 0\nfrom b 1 1\npoint e by a 1 1\n" + line + "\ngoes a b")
        three = "\npoint c by a 1 1\npoint d by a 1 1\npoint e by a 1 1\ngoes a"
        self.bad(5, "hand 1\nfrom a 0 0" + three)
        self.bad(6, "hand 1\nfrom a 0 0\nfrom b 1 1" + three + " b")
        self.bad(4, "hand 1\nfrom a 0 0\npoint b by a 1 1\npoint b by a 2 2\ngoes b")

    def test_walls(self):
        start = "hand 1\nfrom a 0 0\nfrom b 1 1\n"
        for line in ("wall a a", "wall a c", "wall c a", "wall a", "wall a b b", "wall a b ", "wall  a b", "Wall a b",
                     "wall a b within 1", "walls a b", "wall"):
            self.bad(4, start + line + "\npoint c by a 1 1\ngoes a b")
        # Points stand above their walls.
        self.bad(4, start + "wall c b\npoint c by a 1 1\ngoes a b")
        self.bad(6, start + "wall a b\nwall a b\nwall a b\npoint c by a 1 1\ngoes a b")
        self.bad(7, start + "wall a b\nwall a b\npoint c by a 1 1\nwall a b\ngoes a b")
        self.bad(3, "hand 1\nfrom a 0 0\nwall a a\npoint c by a 1 1\ngoes a")

    def test_goes(self):
        for goes in ("goes", "goes a", "goes a b c", "goes a a", "goes a a b", "goes a b b", "goes c c", "goes a d",
                     "goes d a", "goes a  b", "goes ",
                     "goes a b ", "Goes a b", "go a b", "goes a A", "goes a 0", "", "goes a b within 1"):
            self.bad(5, "hand 1\nfrom a 0 0\nfrom b 1 1\npoint c by a 1 1\n" + goes)
        for goes in ("goes", "goes a b", "goes a a", "goes d", "goes ", "goes a ", "goes a c"):
            self.bad(5, "hand 1\nfrom a 0 0\npoint b by a 1 1\npoint c by a 1 1\n" + goes)
        # There is an own point ahead of it, and nothing behind it.
        self.bad(3, "hand 1\nfrom a 0 0\ngoes a")
        self.bad(4, "hand 1\nfrom a 0 0\nfrom b 1 1\ngoes a b")
        self.bad(5, "hand 1\nfrom a 0 0\nfrom b 1 1\nwall a b\ngoes a b")
        for line in ("", "goes b", "goes a", "wall a b", "point c by a 1 1", "hand 1", "from c 1 1"):
            self.bad(5, SHORT + "\n" + line)
        self.bad(4, "hand 1\nfrom a 0 0\npoint b by a 1 1\ngoes a c\npoint c by a 1 1\ngoes a")

    def test_the_first_wrong_line_counts(self):
        lines = TEXT.split("\n")
        for first, second in itertools.combinations(range(len(lines)), 2):
            changed = [line + " ?" * (at in (first, second)) for at, line in enumerate(lines)]
            self.bad(first + 1, "\n".join(changed))
        for at in range(len(lines)):
            self.bad(at + 1, "\n".join(lines[:at] + [""] + lines[at:]))
        self.bad(len(lines) + 1, TEXT + "\n")


class Equality(RefusingTestCase):

    def test_by_texts(self):
        self.assertEqual(Bay(TEXT), Bay(TEXT))
        self.assertIs(Bay(TEXT) == Bay(FULL), False)
        self.assertIs(Bay(TEXT) != Bay(TEXT), False)
        self.assertNotEqual(Bay(TEXT), Bay(TEXT.replace("cross c b", "cross c b within 1")))
        for value in odd_values() + [TEXT, Plan("hand 1\npoint a at 0 0")]:
            self.assertIs(Bay(TEXT) == value, False)
            self.assertIs(value == Bay(TEXT), False)
            self.assertIs(Bay(TEXT) != value, True)

    def test_operators(self):
        bay = Bay(TEXT)
        for call in (
            lambda: bay + bay, lambda: bay - 1, lambda: bay * 2, lambda: bay < bay, lambda: bay >= 1, lambda: bay & bay,
            lambda: -bay, lambda: ~bay, lambda: bay["a"], lambda: "a" in bay, lambda: len(bay), lambda: list(bay),
            lambda: abs(bay), lambda: bay // 2, lambda: 1 | bay,
        ):
            with self.assertRaises(TypeError):
                call()
