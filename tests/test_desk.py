"""Section 16: a desk."""

from tests.odd import RefusingTestCase, odd_but, odd_values
from wobblesnap.boards import Board
from wobblesnap.books import Book
from wobblesnap.coming import safest
from wobblesnap.desk import Desk
from wobblesnap.errors import (
    BadBook, BadName, BadPlace, BadSay, BadWishes, Full, NoPoint, NothingToRedo, NothingToUndo, Taken, TooMany,
)

TEXT = "among eldest\ncorner 5\nlevel 3"


def desk_of(*lines, text=TEXT):
    desk = Desk(text)
    for line in lines:
        desk.say(line)
    return desk


class Says(RefusingTestCase):

    def says(self, desk, line, answer):
        found = desk.say(line)
        self.assertEqual((type(found), found), (str, answer))

    def test_the_example(self):
        desk = Desk(TEXT)
        self.assertEqual(
            [desk.say(line) for line in ("click a 0 0", "click b 60 2", "safe level a b", "undo", "click c 1 1")],
            ["0 0", "60 0", "0", "done", "0 0"],
        )

    def test_its_board(self):
        desk = Desk(text=TEXT)
        self.assertIs(type(desk.board), Board)
        self.assertEqual(desk.board, Board(Book(TEXT)))
        desk.say("click a 0 0")
        self.assertEqual(desk.board.journal, ("click a 0 0",))
        desk.board.click("b", 60, 2)
        self.says(desk, "where b", "60 0")

    def test_bad_books(self):
        for value in odd_but(str):
            self.refuses(BadBook, 0, Desk, value)
        for text, number in (("", 1), ("among eldest", 2), ("among eldest\nlevel 100", 2), (TEXT + "\n", 4)):
            self.refuses(BadBook, number, Desk, text)
            self.refuses(BadBook, number, Desk, text=text)

    def test_clicks(self):
        desk = Desk("among eldest\ncorner 5")
        for line, answer in (("click a 0 0", "0 0"), ("click b -999 999", "-999 999"), ("click c 999 -999", "999 -999"),
                             ("click abcdefgh 5 -5", "0 0"), ("click wall -7 0", "-7 0"), ("click click 1 50", "1 50")):
            self.says(desk, line, answer)
        self.assertEqual(desk.board.points, ("a", "b", "c", "abcdefgh", "wall", "click"))
        desk = desk_of("click a -1 -2")
        self.says(desk, "where a", "-1 -2")
        self.assertEqual(desk.say(line="click b 4 3"), "-1 -2")

    def test_walls_undo_and_redo(self):
        desk = desk_of("click a 0 0", "click b 60 2", text="among eldest\nwall 3")
        self.says(desk, "wall b a", "done")
        self.assertEqual(desk.board.walls, (("b", "a"),))
        self.says(desk, "undo", "done")
        self.assertEqual(desk.board.walls, ())
        self.says(desk, "redo", "done")
        self.assertEqual(desk.board.walls, (("b", "a"),))
        for _ in range(3):
            self.says(desk, "undo", "done")
        self.refuses(NothingToUndo, None, desk.say, "undo")
        self.assertEqual(desk.board.points, ())
        self.says(desk, "redo", "done")
        self.says(desk, "where a", "0 0")

    def test_safe(self):
        desk = desk_of("click a 0 0", "click b 60 2")
        # Clicked again, b is off by 2 from the height of a; both of them off by one may be 4.
        self.says(desk, "safe level a b", "0")
        self.says(desk, "safe upright a b", "-1")
        self.says(desk, "safe same b a", "-1")
        desk = desk_of("click a 0 0", "click b 3 2", "click c 500 500")
        for word in ("same", "level", "upright"):
            for one, other in (("a", "b"), ("b", "a"), ("a", "c")):
                told = safest(Book(TEXT), desk.board.again(50), ((word, one, other),))[0]
                self.says(desk, f"safe {word} {one} {other}", str(told))
        desk = desk_of("click a 0 0", "click b 500 0", text="among eldest\nlevel 99")
        self.says(desk, "safe level b a", "49")
        # Walls stand in the plan as well.
        desk = desk_of("click a 0 0", "click b 60 0", "wall a b", "click c 30 9", text="among latest\nwall 9\nlevel 1")
        self.says(desk, "safe level a b", "0")
        self.says(desk, "safe level b c", "0")
        self.assertEqual(desk.board.done, 4)

    def test_the_greatest_bound(self):
        for text, x in (("among eldest\ngrid 99", 0), ("among eldest\nlevel 9\ngrid 99", 99)):
            desk = desk_of("click a 0 0", f"click b {x} 0", text=text)
            told = safest(Book(text), desk.board.again(0), (("level", "a", "b"),))[0]
            self.says(desk, "safe level a b", str(told))

    def test_errors_of_the_board_pass_on(self):
        desk = desk_of("click a 0 0", "click b 60 2")
        journal = desk.board.journal
        for line, error, value in (
            ("click A 0 0", BadName, "A"), ("click abcdefghi 0 0", BadName, "abcdefghi"),
            ("click a! 1 1", BadName, "a!"),
            ("click 0 0 0", BadName, "0"), ("click a 1000 0", Taken, "a"), ("click b 1 1", Taken, "b"),
            ("wall a c", NoPoint, "c"), ("wall c a", NoPoint, "c"), ("wall a a", NoPoint, "a"),
            ("wall ! a", NoPoint, "!"),
            ("where c", NoPoint, "c"), ("where A", NoPoint, "A"), ("where where", NoPoint, "where"),
            ("where 0", NoPoint, "0"), ("redo", NothingToRedo, None),
        ):
            with self.assertRaises(error) as caught:
                desk.say(line)
            self.assertIs(type(caught.exception), error)
            self.assertEqual(caught.exception.value, value)
            self.assertEqual(desk.board.journal, journal)
        for line, value in (("click c 1000 0", (1000, 0)), ("click c 0 -1000", (0, -1000)),
                            ("click c 999999999 -999999999", (999999999, -999999999))):
            with self.assertRaises(BadPlace) as caught:
                desk.say(line)
            self.assertEqual(caught.exception.value, value)
        for name in "cdef":
            desk.say(f"click {name} 1 {ord(name)}")
        self.refuses(Full, 6, desk.say, "click g 1 1")
        for _ in range(4):
            desk.say("wall a b")
        self.refuses(Full, 4, desk.say, "wall a b")
        self.refuses(NothingToUndo, None, Desk(TEXT).say, "undo")

    def test_errors_of_safest_pass_on(self):
        for line in ("safe level a b", "safe same a a", "safe upright A !"):
            self.refuses(NoPoint, None, Desk(TEXT).say, line)
        desk = desk_of("click a 0 0", "click b 60 2")
        for wish in (("level", "a", "a"), ("same", "a", "c"), ("upright", "A", "b"), ("level", "a!", "0"),
                     ("level", "level", "a")):
            with self.assertRaises(BadWishes) as caught:
                desk.say("safe " + " ".join(wish))
            self.assertEqual(caught.exception.value, (wish,))
        desk.say("undo")
        desk.say("undo")
        self.refuses(NoPoint, None, desk.say, "safe level a b")
        # By 1 each point may come to two multiples in x, and in y.
        desk = desk_of(*(f"click {name} 0 0" for name in "abcde"), text="among latest\ngrid 2")
        self.refuses(TooMany, 400, desk.say, "safe same a b")


class BadLines(RefusingTestCase):

    def test_any_values(self):
        for desk in (Desk(TEXT), desk_of("click a 0 0")):
            for value in odd_values() + [None, ("undo",), ["undo"], b"undo"]:
                self.refuses(BadSay, value, desk.say, value)
                self.refuses(BadSay, value, desk.say, line=value)

    def test_lines_of_no_form(self):
        desk = desk_of("click a 0 0", "click b 60 2", "wall a b")
        desk.say("undo")
        journal = desk.board.journal
        for line in (
            "", " ", "\n", "hello", "click", "click c", "click c 1", "click c 1 1 1", "click  1 1", "click c  1 1",
            "click c 1 1 ", " click c 1 1", "click c 1  1", "Click c 1 1", "click c 1 1\n", "\nclick c 1 1",
            "click c 1\n1",
            "click c x 1", "click c 1 x", "click c 01 1", "click c +1 1", "click c -0 1", "click c 1.0 1",
            "click c 1_0 1",
            "click c 1e2 1", "click c 0x1 1", "click c - 1", "click c --1 1", "click c 00 1", "click c 1,1 2",
            "click c 1 1,",
            "wall", "wall a", "wall a b c", "wall a  b", "wall a b ", " wall a b", "Wall a b", "wall a b\n",
            "wall a\nb",
            "undo ", " undo", "undo undo", "Undo", "undo\n", "undo 1", "undos", "redo ", " redo", "redo redo", "Redo",
            "redo\n", "where", "where ", "where a b", "where  a", "where a ", " where a", "Where a", "where a\n",
            "where\na",
            "safe", "safe level", "safe level a", "safe level a b c", "safe  level a b", "safe level a b ",
            "Safe level a b",
            "safe levels a b", "safe x a b", "safe on a b", "safe apart a b", "safe Level a b", "safe level  a b",
            "safe a b",
            "safe level a b\n", "safe level a\nb", "safe y a b 0 1", "safe  a b", "hand 3", "point a at 0 0", "keep",
            "trial",
            "click c 1 1\nclick d 1 1", "undo\nundo", TEXT,
        ):
            with self.subTest(line):
                self.refuses(BadSay, line, desk.say, line)
                self.assertEqual(desk.board.journal, journal)
        # What can be done again still can.
        self.assertEqual(desk.say("redo"), "done")

    def test_ahead_of_the_errors_of_the_board(self):
        desk = Desk(TEXT)
        for line in ("undo ", "safe x a b", "safe level a", "where  a", "click A 1 x", "wall A", "redo  "):
            self.refuses(BadSay, line, desk.say, line)

    def test_no_other_operators(self):
        desk = Desk(TEXT)
        for call in (lambda: len(desk), lambda: desk["a"], lambda: "a" in desk, lambda: list(desk), lambda: desk + 1,
                     lambda: desk < desk, lambda: -desk):
            with self.assertRaises(TypeError):
                call()
