"""Section 15: boards."""

import copy
import itertools
import random
import re

from tests.odd import RefusingTestCase, nested, odd_but, odd_values
from tests.reference import draw_click
from wobblesnap.boards import Board, read_board
from wobblesnap.books import Book
from wobblesnap.drawing import drawn, taken
from wobblesnap.errors import (
    BadJournal, BadName, BadNumber, BadPlace, DrawError, Full, NoPoint, NoTrial, NothingToRedo, NothingToUndo, Taken,
)
from wobblesnap.plans import Plan

BOOK = Book("among eldest\ncorner 5\nlevel 3")
FREE = (("free",), ("free",))


def board_of(*lines, book=BOOK):
    return read_board(book, lines)


def picture(board):
    """All that can be seen of a board, what can be undone and done again included; the board stays as it is."""
    rows = []
    with board.trial():
        while True:
            rows.append(board.journal)
            try:
                board.redo()
            except NothingToRedo:
                break
    return (
        board.points, board.walls, board.done, board.journal, [board[name] for name in board.points],
        [board.way(name) for name in board.points], len(board), rows, board.book,
    )


class Clicks(RefusingTestCase):

    def test_empty(self):
        board = Board(BOOK)
        self.assertIs(board.book, BOOK)
        self.assertEqual([board.points, board.walls, board.done, board.journal, len(board)], [(), (), 0, (), 0])
        self.assertEqual(Board(book=BOOK).points, ())

    def test_a_click_is_drawn_by_the_book(self):
        board = Board(BOOK)
        self.assertEqual(board.click("a", 0, 0), (0, 0))
        self.assertEqual(board.click("b", 60, 2), (60, 0))
        self.assertEqual(board.click(y=-4, x=3, name="c"), (0, 0))
        self.assertEqual(board.points, ("a", "b", "c"))
        self.assertEqual([board["a"], board["b"], board["c"]], [(0, 0), (60, 0), (0, 0)])
        self.assertEqual([board.way("a"), board.way("b"), board.way(name="c")],
                         [FREE, (("free",), ("level", "a")), (("corner", "a"), ("corner", "a"))])
        self.assertEqual([board.done, len(board)], [3, 3])

    def test_kinds(self):
        board = board_of("click a 0 0", "click b 60 2", "wall a b")
        self.assertEqual([type(told) for told in (board.points, board.walls, board.done, board.journal, len(board))],
                         [tuple, tuple, int, tuple, int])
        self.assertEqual([type(board["b"]), type(board["b"][0]), type(board.way("b")), type(board.way("b")[0])],
                         [tuple, int, tuple, tuple])
        self.assertIs(type(board.click("c", 9, 9)), tuple)
        self.assertEqual(board.walls, (("a", "b"),))
        self.assertIs(board.wall("c", "a"), None)
        self.assertIs(board.undo(), None)
        self.assertIs(board.redo(), None)

    def test_walls_are_looked_at_from_now_on(self):
        board = Board(Book("among latest\nwall 3"))
        board.click("a", 0, 0)
        board.click("b", 40, 0)
        self.assertEqual(board.click("c", 20, 3), (20, 3))
        board.wall("a", "b")
        self.assertEqual(board.click("d", 20, 3), (20, 0))
        self.assertEqual(board.way("d"), (("free",), ("wall", "a", "b")))
        board.wall(other="b", one="a")
        board.wall("b", "a")
        self.assertEqual(board.walls, (("a", "b"), ("a", "b"), ("b", "a")))
        self.assertEqual(board.click("e", 20, -3), (20, 0))
        self.assertEqual(board.way("e"), (("free",), ("wall", "b", "a")))

    def test_each_name(self):
        for name in ("a", "z", "abcdefgh", "wall", "click", "undo", "hand"):
            board = Board(BOOK)
            board.click(name, 1, 1)
            self.assertEqual([board.points, board[name], board.journal], [(name,), (1, 1), (f"click {name} 1 1",)])

    def test_bad_names_ahead_of_the_rest(self):
        board = board_of("click a 0 0")
        before = picture(board)
        names = odd_values() + ["A", "abcdefghi", "", "a ", " a", "a!", "a1", "0", "a\n", "ab-"]
        for value in names:
            if not (isinstance(value, str) and re.fullmatch("[a-z]{1,8}", value)):
                self.refuses(BadName, value, board.click, value, "x", None)
                self.refuses(BadName, value, board.click, value, 1, 1)
        self.assertEqual(picture(board), before)

    def test_names_that_are_taken(self):
        board = board_of("click a 0 0", "click b 50 50")
        for name in ("a", "b"):
            self.refuses(Taken, name, board.click, name, 1, 1)
            self.refuses(Taken, name, board.click, name, 1000, None)
        board.undo()
        self.assertEqual(board.click("b", 9, 9), (9, 9))

    def test_places(self):
        for x, y in itertools.product((-999, 0, 999), repeat=2):
            board = Board(Book("among eldest\ncorner 0"))
            self.assertEqual(board.click("a", x, y), (x, y))
        board = board_of("click a 0 0")
        before = picture(board)
        for value in odd_but(int) + [1000, -1000, 999999999, "5", 5.0]:
            for x, y in ((value, 0), (0, value), (value, value), (1000, value)):
                with self.assertRaises(BadPlace) as caught:
                    board.click("b", x, y)
                self.assertIs(type(caught.exception.value), tuple)
                self.assertEqual(len(caught.exception.value), 2)
                self.assertIs(caught.exception.value[0], x)
                self.assertIs(caught.exception.value[1], y)
        self.assertEqual(picture(board), before)

    def test_six_points_and_a_seventh(self):
        board = Board(Book("among eldest\nstraight 1"))
        for at, name in enumerate("abcdef"):
            self.assertEqual(len(board), at)
            board.click(name, 50 * at, 50 * at)
        self.refuses(Full, 6, board.click, "g", 1, 1)
        with self.assertRaises(BadPlace) as caught:
            board.click("g", 1, 1000)
        self.assertEqual(caught.exception.value, (1, 1000))
        self.refuses(Taken, "a", board.click, "a", 1, 1000)
        self.assertEqual(board.points, tuple("abcdef"))
        board.undo()
        board.click("g", 1, 1)
        self.assertEqual(board.points, tuple("abcdeg"))

    def test_four_walls_and_a_fifth(self):
        board = board_of("click a 0 0", "click b 50 50")
        for many in range(4):
            self.assertEqual(len(board.walls), many)
            board.wall("a", "b")
        self.refuses(Full, 4, board.wall, "a", "b")
        self.refuses(NoPoint, "c", board.wall, "c", "b")
        self.refuses(NoPoint, "b", board.wall, "b", "b")
        self.assertEqual(len(board.walls), 4)

    def test_walls_between_no_points(self):
        board = board_of("click a 0 0", "click b 50 50")
        before = picture(board)
        for value in odd_values() + ["c", "A", "", "a ", "points"]:
            if value == "a":
                continue
            self.refuses(NoPoint, value, board.wall, value, "b")
            self.refuses(NoPoint, value, board.wall, value, value)
            self.refuses(NoPoint, value, board.wall, "a", value)
        self.refuses(NoPoint, "a", board.wall, "a", "a")
        self.refuses(NoPoint, "zz", board.wall, "zz", "yy")
        self.assertEqual(picture(board), before)

    def test_points_by_name(self):
        board = board_of("click a 0 0", "click b 50 50")
        for value in odd_values() + ["c", "A", "", ("a",)]:
            expected = isinstance(value, str) and value in ("a", "b")
            self.assertIs(value in board, expected)
            if not expected:
                self.refuses(NoPoint, value, board.way, value)
                self.refuses(NoPoint, value, board.__getitem__, value)
        self.assertEqual(board["b"], (50, 50))
        board.undo()
        self.assertIs("b" in board, False)
        self.refuses(NoPoint, "b", lambda: board["b"])

    def test_by_plans_at(self):
        dealt = random.Random(701)
        for _ in range(120):
            book = deal_board_book(dealt)
            board = Board(book)
            for _ in range(dealt.randint(1, 12)):
                deal_deed(dealt, board)
            if not board.points:
                continue
            plan = board.again(0)
            hands = tuple(plan[name][0][1:] for name in plan.points)
            self.assertEqual(tuple(board[name] for name in board.points), drawn(book, plan, hands))
            self.assertEqual(tuple(board.way(name) for name in board.points), taken(book, plan, hands))


def set_item(board):
    board["a"] = (1, 1)


def deal_board_book(dealt):
    lines = ["among " + dealt.choice(("eldest", "latest"))]
    for word in dealt.sample(("corner", "wall", "level", "straight", "grid"), dealt.randint(1, 4)):
        lines.append(f"{word} {dealt.randint(2, 6)}")
    return Book("\n".join(lines))


def deal_deed(dealt, board):
    """Do something, or be refused."""
    try:
        kind = dealt.choice(("click", "click", "click", "wall", "wall", "undo", "redo", "redo"))
        if kind == "click":
            board.click(dealt.choice("abcdefgh"), dealt.randint(-15, 15), dealt.randint(-15, 15))
        elif kind == "wall":
            board.wall(dealt.choice("abcdefgh"), dealt.choice("abcdefgh"))
        elif kind == "undo":
            board.undo()
        else:
            board.redo()
    except DrawError:
        pass


class Model:
    """A board in other words: two lists of deeds, gone over anew each time."""

    def __init__(self, book):
        self.book, self.deeds, self.back = book, [], []

    def look(self):
        places, ways, walls, journal = {}, [], [], []
        for deed in self.deeds:
            journal.append(" ".join(str(word) for word in deed))
            if deed[0] == "wall":
                walls.append(deed[1:])
            else:
                places[deed[1]], way = draw_click(self.book, deed[2:], dict(places), walls)
                ways.append(way)
        return tuple(places), tuple(walls), len(self.deeds), tuple(journal), list(places.values()), ways

    def seen(self, board):
        return picture(board)[:6] == self.look()


class Undone(RefusingTestCase):

    def test_none(self):
        board = Board(BOOK)
        self.refuses(NothingToUndo, None, board.undo)
        self.refuses(NothingToRedo, None, board.redo)
        board.click("a", 0, 0)
        self.refuses(NothingToRedo, None, board.redo)
        board.undo()
        self.refuses(NothingToUndo, None, board.undo)
        board.redo()
        self.refuses(NothingToRedo, None, board.redo)
        self.assertEqual(board.journal, ("click a 0 0",))

    def test_deeds_are_taken_back_and_done_again(self):
        lines = ("click a 0 0", "click b 60 2", "wall a b", "click c 30 1", "wall c a")
        board = board_of(*lines)
        for many in range(5, 0, -1):
            self.assertEqual([board.done, board.journal], [many, lines[:many]])
            self.assertEqual(picture(board)[:6], picture(board_of(*lines[:many]))[:6])
            board.undo()
        self.assertEqual([board.points, board.walls, board.done], [(), (), 0])
        for many in range(1, 6):
            board.redo()
            self.assertEqual(picture(board)[:6], picture(board_of(*lines[:many]))[:6])

    def test_another_deed_ends_what_can_be_done_again(self):
        board = board_of("click a 0 0", "click b 60 2", "click c 9 9")
        board.undo()
        board.undo()
        board.click("d", 5, 50)
        self.refuses(NothingToRedo, None, board.redo)
        self.assertEqual(board.journal, ("click a 0 0", "click d 5 50"))
        board.wall("a", "d")
        board.undo()
        board.wall("d", "a")
        self.refuses(NothingToRedo, None, board.redo)
        self.assertEqual(board.walls, (("d", "a"),))

    def test_a_refused_deed_ends_nothing(self):
        board = board_of("click a 0 0", "click b 60 2", "click c 9 9")
        board.undo()
        board.undo()
        for call in (lambda: board.click("a", 1, 1), lambda: board.click("B", 1, 1), lambda: board.click("d", 1000, 1),
                     lambda: board.wall("a", "b"), lambda: board.wall("a", "a"), lambda: board.again(100),
                     lambda: board["b"], lambda: board.way("b"), board.keep):
            with self.assertRaises(DrawError):
                call()
        board.redo()
        board.redo()
        self.assertEqual(board.points, ("a", "b", "c"))
        self.refuses(NothingToRedo, None, board.redo)

    def test_a_point_is_drawn_again_as_it_was(self):
        board = board_of("click a 0 0", "click b 60 2")
        board.undo()
        board.redo()
        self.assertEqual([board["b"], board.way("b")], [(60, 0), (("free",), ("level", "a"))])

    def test_by_other_words(self):
        dealt = random.Random(702)
        for _ in range(150):
            book = deal_board_book(dealt)
            board, model = Board(book), Model(book)
            for _ in range(dealt.randint(1, 25)):
                kind = dealt.choice(("click", "click", "click", "wall", "undo", "undo", "redo"))
                names = [deed[1] for deed in model.deeds if deed[0] == "click"]
                walls = [deed for deed in model.deeds if deed[0] == "wall"]
                if kind == "click":
                    deed = ("click", dealt.choice("abcdefgh"), dealt.randint(-15, 15), dealt.randint(-15, 15))
                    if deed[1] in names or len(names) == 6:
                        self.assertRaises(Taken if deed[1] in names else Full, board.click, *deed[1:])
                    else:
                        board.click(*deed[1:])
                        model.deeds.append(deed)
                        model.back = []
                elif kind == "wall":
                    deed = ("wall", dealt.choice("abcd"), dealt.choice("abcd"))
                    if deed[1] not in names or deed[2] not in names or deed[1] == deed[2]:
                        self.assertRaises(NoPoint, board.wall, *deed[1:])
                    elif len(walls) == 4:
                        self.assertRaises(Full, board.wall, *deed[1:])
                    else:
                        board.wall(*deed[1:])
                        model.deeds.append(deed)
                        model.back = []
                elif kind == "undo" and not model.deeds:
                    self.assertRaises(NothingToUndo, board.undo)
                elif kind == "undo":
                    board.undo()
                    model.back.append(model.deeds.pop())
                elif not model.back:
                    self.assertRaises(NothingToRedo, board.redo)
                else:
                    board.redo()
                    model.deeds.append(model.back.pop())
                self.assertTrue(model.seen(board))
            self.assertEqual(read_board(book, board.journal), board)
            self.assertEqual(picture(read_board(book, board.journal))[:6], picture(board)[:6])


class Again(RefusingTestCase):

    def test_the_lines(self):
        board = board_of("click a 3 -4", "click b 60 2", "wall b a", "click c 30 1")
        self.assertEqual(board.again(7).text, "hand 7\npoint a at 3 -4\npoint b at 60 2\nwall b a\npoint c at 30 1")
        self.assertIs(type(board.again(0)), Plan)
        self.assertEqual(board.again(bound=99).hand, 99)
        board.undo()
        board.undo()
        self.assertEqual(board.again(0), Plan("hand 0\npoint a at 3 -4\npoint b at 60 2"))

    def test_errors_in_sequence(self):
        for board in (Board(BOOK), board_of("click a 3 -4")):
            for value in odd_values() + [100, -1, 999999999, "3", True, False]:
                if value not in (0, 1) or isinstance(value, bool):
                    self.refuses(BadNumber, value, board.again, value)
        self.refuses(NoPoint, None, Board(BOOK).again, 3)
        board = board_of("click a 3 -4")
        board.undo()
        self.refuses(NoPoint, None, board.again, 0)

    def test_six_points_and_four_walls(self):
        lines = [f"click {name} {-999 + 300 * at} 999" for at, name in enumerate("abcdef")] + ["wall a f"] * 4
        self.assertEqual(len(board_of(*lines).again(0).text.split("\n")), 11)


class Journals(RefusingTestCase):

    def test_lines(self):
        board = Board(BOOK)
        board.click("a", -999, 999)
        board.click("b", 0, -7)
        board.wall("b", "a")
        self.assertEqual(board.journal, ("click a -999 999", "click b 0 -7", "wall b a"))
        other = read_board(lines=board.journal, book=BOOK)
        self.assertEqual(other, board)
        self.assertEqual(picture(other), picture(board))
        self.assertEqual(read_board(BOOK, ()), Board(BOOK))

    def test_no_tuple(self):
        for value in odd_but(tuple) + [["click a 0 0"], "click a 0 0", {"click a 0 0": 1}, Board(BOOK)]:
            self.refuses(BadJournal, 0, read_board, BOOK, value)

    def test_the_first_line_that_cannot_be_done(self):
        good = ("click a 0 0", "click b 50 5", "wall a b")
        for value in odd_values() + [
            "click", "click c", "click c 0", "click c 0 0 0", "click c 0 0 ", " click c 0 0", "click  c 0 0",
            "click c 00 0", "click c +1 0", "click c -0 0", "click c 0 1.0", "click c 0 x", "click c 0 1_0",
            "click C 0 0",
            "click c0 0 0", "click abcdefghi 0 0", "click a 0 0", "click c 1000 0", "click c 0 -1000", "click c 0 0\n",
            "click c 9999999999 0", "Click c 0 0", "wall", "wall a", "wall a a", "wall a c", "wall c a", "wall a b c",
            "wall a b ", "wall  a b", "wall A b", "undo", "redo", "point c at 0 0", "hand 3", "", " ", "\n",
            ("click c 0 0",),
            ["click c 0 0"], None, "click c 0", "click c  0 0", "click c " + "9" * 3000 + " 0", "walls a b",
        ]:
            for at in range(3):
                lines = good[:at] + (value,) + good[at:]
                if at == 0 and value in ("click a 0 0",):
                    # Now the second line is the one that is refused.
                    self.refuses(BadJournal, 2, read_board, BOOK, lines)
                    continue
                if at < 2 and value == "wall a b":
                    continue
                self.refuses(BadJournal, at + 1, read_board, BOOK, lines)
                self.refuses(BadJournal, at + 1, read_board, BOOK, lines + (None,))
        self.refuses(BadJournal, 1, read_board, BOOK, good[::-1])
        six = tuple(f"click {name} 0 {100 * at}" for at, name in enumerate("abcdef"))
        self.refuses(BadJournal, 7, read_board, BOOK, six + ("click g 9 9",))
        self.refuses(BadJournal, 11, read_board, BOOK, six + ("wall a b",) * 5)
        self.assertEqual(read_board(BOOK, six + ("wall a b",) * 4).done, 10)
        self.refuses(BadJournal, 1, read_board, BOOK, nested("click a 0 0", 50000, lambda value: (value,)))

    def test_two_wrong_at_once(self):
        self.refuses(BadJournal, 2, read_board, BOOK, ("click a 0 0", "wall a a", None, "click a 0 0"))
        self.refuses(BadJournal, 1, read_board, BOOK, (None, "x"))


class Trials(RefusingTestCase):

    def setUp(self):
        self.board = board_of("click a 0 0", "click b 60 2", "click c 30 30")
        self.board.undo()
        self.before = picture(self.board)

    def unchanged(self):
        self.assertEqual(picture(self.board), self.before)
        self.assertEqual(self.board.points, ("a", "b"))

    def test_what_is_tried_leaves_nothing(self):
        with self.board.trial() as held:
            self.assertIs(held, self.board)
            held.click("d", 5, 50)
            held.wall("a", "d")
            self.assertEqual(self.board.points, ("a", "b", "d"))
            self.refuses(NothingToRedo, None, held.redo)
        self.unchanged()
        with self.board.trial():
            for _ in range(2):
                self.board.undo()
            self.refuses(NothingToUndo, None, self.board.undo)
            self.board.click("z", 1, 1)
        self.unchanged()
        self.board.redo()
        self.assertEqual(self.board.points, ("a", "b", "c"))

    def test_nothing_is_done_in_a_block(self):
        with self.board.trial():
            pass
        self.unchanged()
        self.board.trial()
        self.unchanged()
        self.refuses(NoTrial, None, self.board.keep)

    def test_kept(self):
        with self.board.trial() as held:
            held.click("d", 5, 50)
            self.assertIs(held.keep(), None)
            held.click("e", 200, 200)
        self.assertEqual(self.board.points, ("a", "b", "d", "e"))
        self.refuses(NothingToRedo, None, self.board.redo)
        self.board.undo()
        self.assertEqual(self.board.points, ("a", "b", "d"))
        with self.board.trial() as held:
            held.keep()
            held.keep()
            held.undo()
        self.assertEqual(self.board.points, ("a", "b"))
        self.board.redo()
        self.board.redo()
        self.assertEqual(self.board.points, ("a", "b", "d", "e"))

    def test_errors_pass_on(self):
        for error in (KeyError, DrawError(3), Taken("a"), ValueError("no"), KeyboardInterrupt):
            for keep in (False, True):
                with self.assertRaises(error if isinstance(error, type) else type(error)):
                    with self.board.trial() as held:
                        held.click("d", 5, 50)
                        if keep:
                            held.keep()
                        raise error
                self.unchanged()
        with self.assertRaises(Taken):
            with self.board.trial() as held:
                held.undo()
                held.keep()
                held.click("a", 1, 1)
        self.unchanged()

    def test_an_error_that_does_not_leave_the_block(self):
        with self.board.trial() as held:
            self.assertRaises(Taken, held.click, "a", 1, 1)
            held.click("d", 5, 50)
            held.keep()
        self.assertEqual(self.board.points, ("a", "b", "d"))

    def test_keep_outside_of_all_blocks(self):
        self.refuses(NoTrial, None, self.board.keep)
        with self.board.trial():
            self.board.keep()
        self.refuses(NoTrial, None, self.board.keep)
        with self.assertRaises(KeyError):
            with self.board.trial():
                raise KeyError
        self.refuses(NoTrial, None, self.board.keep)
        with self.board.trial():
            self.refuses(NoTrial, None, Board(BOOK).keep)
            self.refuses(NoTrial, None, self.board.copy().keep)
        self.unchanged()

    def test_blocks_in_one_another(self):
        for inner, outer in itertools.product((False, True), repeat=2):
            board = self.board.copy()
            with board.trial():
                board.click("d", 5, 50)
                with board.trial():
                    board.click("e", 200, 200)
                    if inner:
                        board.keep()
                self.assertEqual(board.points, ("a", "b", "d") + ("e",) * inner)
                if outer:
                    board.keep()
            self.assertEqual(board.points, ("a", "b") + (("d",) + ("e",) * inner) * outer)

    def test_keep_ahead_of_an_inner_block(self):
        with self.board.trial():
            self.board.keep()
            with self.board.trial():
                self.board.click("d", 5, 50)
            self.assertEqual(self.board.points, ("a", "b"))
            self.board.click("e", 5, 60)
        self.assertEqual(self.board.points, ("a", "b", "e"))

    def test_an_error_in_an_inner_block(self):
        with self.board.trial():
            self.board.click("d", 5, 50)
            with self.assertRaises(KeyError):
                with self.board.trial():
                    self.board.keep()
                    self.board.undo()
                    self.board.undo()
                    raise KeyError
            self.assertEqual(self.board.points, ("a", "b", "d"))
            self.board.keep()
        self.assertEqual(self.board.points, ("a", "b", "d"))
        with self.assertRaises(KeyError):
            with self.board.trial():
                self.board.keep()
                with self.board.trial():
                    self.board.click("e", 5, 70)
                    self.board.keep()
                    raise KeyError
        self.assertEqual(self.board.points, ("a", "b", "d"))

    def test_many_blocks_in_one_another(self):
        def deeper(many):
            before = picture(self.board)
            with self.board.trial():
                if many % 2:
                    self.board.undo()
                if many:
                    deeper(many - 1)
                    self.assertEqual(self.board.done, before[2] - many % 2)
            self.assertEqual(picture(self.board), before)

        for name in "defg":
            self.board.click(name, ord(name), -ord(name))
        deeper(11)

    def test_one_block_entered_again(self):
        trial = self.board.trial()
        for name in ("d", "e"):
            with trial as held:
                held.click(name, 5, 50)
                if name == "e":
                    held.keep()
        self.assertEqual(self.board.points, ("a", "b", "e"))
        with trial:
            self.board.undo()
            with trial:
                self.board.undo()
                self.board.keep()
            self.assertEqual(self.board.points, ("a",))
        self.assertEqual(self.board.points, ("a", "b", "e"))

    def test_left_by_return_and_break(self):
        def looked(keep):
            with self.board.trial() as held:
                held.click("d", 5, 50)
                if keep:
                    held.keep()
                return held.points

        self.assertEqual(looked(False), ("a", "b", "d"))
        self.unchanged()
        for _ in range(2):
            with self.board.trial():
                self.board.undo()
                break
        self.unchanged()
        self.assertEqual(looked(True), ("a", "b", "d"))
        self.assertEqual(self.board.points, ("a", "b", "d"))

    def test_two_boards(self):
        other = Board(BOOK)
        with self.board.trial(), other.trial():
            self.board.click("d", 5, 50)
            other.click("x", 1, 1)
            other.keep()
        self.unchanged()
        self.assertEqual(other.points, ("x",))

    def test_tried(self):
        def look(held):
            self.assertIs(held, self.board)
            return held.click("d", 5, 50), held.journal

        place, journal = self.board.tried(look)
        self.assertEqual((place, journal[-1]), ((5, 50), "click d 5 50"))
        self.unchanged()
        self.assertEqual(self.board.tried(look=look, keep=False)[0], (5, 50))
        self.unchanged()
        self.assertIs(self.board.tried(lambda held: None), None)
        found = []
        self.assertIs(self.board.tried(lambda held: found), found)
        self.assertEqual(self.board.tried(look, keep=True)[0], (5, 50))
        self.assertEqual(self.board.points, ("a", "b", "d"))

    def test_other_values_for_keep(self):
        for value in odd_values() + [1, "True", (True,), [True], 2]:
            if value is not True:
                self.board.tried(lambda held: held.click("d", 5, 50), keep=value)
                self.unchanged()
        with self.assertRaises(TypeError):
            self.board.tried(lambda held: held.click("d", 5, 50), True)
        self.unchanged()

    def test_tried_with_errors_and_keep(self):
        def fails(held):
            held.undo()
            held.keep()
            raise KeyError(5)

        for keep in (False, True):
            with self.assertRaises(KeyError):
                self.board.tried(fails, keep=keep)
            self.unchanged()
            self.assertRaises(Taken, self.board.tried, lambda held: held.click("a", 1, 1), keep=keep)
            self.unchanged()
        self.board.tried(lambda held: (held.undo(), held.keep()))
        self.assertEqual(self.board.points, ("a",))
        self.refuses(NoTrial, None, self.board.keep)

    def test_tried_within_a_trial(self):
        with self.board.trial() as held:
            held.tried(lambda inner: inner.click("d", 5, 50), keep=True)
            self.assertEqual(held.points, ("a", "b", "d"))
            held.tried(lambda inner: inner.tried(lambda last: last.undo(), keep=True))
            self.assertEqual(held.points, ("a", "b", "d"))
        self.unchanged()


class Copies(RefusingTestCase):

    def test_alike_in_all_things(self):
        board = board_of("click a 0 0", "click b 60 2", "wall a b", "click c 30 30")
        board.undo()
        board.undo()
        twin = board.copy()
        self.assertIsNot(twin, board)
        self.assertIs(type(twin), Board)
        self.assertEqual(twin, board)
        self.assertEqual(picture(twin), picture(board))
        twin.redo()
        twin.redo()
        self.assertEqual(twin.points, ("a", "b", "c"))

    def test_independent(self):
        board = board_of("click a 0 0", "click b 60 2")
        twin = board.copy()
        twin.click("c", 9, 9)
        self.assertEqual([board.points, twin.points], [("a", "b"), ("a", "b", "c")])
        board.undo()
        board.click("z", 5, 5)
        self.assertEqual([board.points, twin.points], [("a", "z"), ("a", "b", "c")])

    def test_outside_of_all_trials(self):
        board = board_of("click a 0 0")
        with board.trial():
            board.click("b", 60, 2)
            twin = board.copy()
            self.refuses(NoTrial, None, twin.keep)
            twin.click("c", 7, 70)
        self.assertEqual([board.points, twin.points], [("a",), ("a", "b", "c")])
        with twin.trial():
            self.refuses(NoTrial, None, board.keep)
            twin.undo()
        self.assertEqual(twin.points, ("a", "b", "c"))


class Equality(RefusingTestCase):

    def test_by_books_and_journals(self):
        board = board_of("click a 0 0", "click b 60 2")
        self.assertEqual(board, board_of("click a 0 0", "click b 60 2"))
        self.assertIs(board != board_of("click a 0 0", "click b 60 2"), False)
        self.assertEqual(board, board_of("click a 0 0", "click b 60 2", book=Book(BOOK.text)))
        for other in (
            board_of("click a 0 0", "click b 60 0"), board_of("click a 0 0"), board_of("click b 60 2", "click a 0 0"),
            board_of("click a 0 0", "click b 60 2", "wall a b"), Board(BOOK),
            board_of("click a 0 0", "click b 60 2", book=Book("among latest\ncorner 5\nlevel 3")),
        ):
            self.assertIs(board == other, False)
            self.assertIs(board != other, True)
        for value in odd_values() + [board.journal, BOOK, None]:
            if value is not board:
                self.assertIs(board == value, False)
                self.assertIs(value == board, False)

    def test_whatever_can_be_done_again(self):
        board = board_of("click a 0 0", "click b 60 2", "click c 9 90")
        board.undo()
        other = board_of("click a 0 0", "click b 60 2")
        self.assertEqual(board, other)
        with other.trial():
            self.assertEqual(board, other)
            other.undo()
            self.assertNotEqual(board, other)
        self.assertEqual(board, other)

    def test_no_going_over(self):
        for board in (Board(BOOK), board_of("click a 0 0", "click b 60 2")):
            for call in (iter, list, tuple, sorted, sum, lambda told: [*told], lambda told: dict.fromkeys(told)):
                with self.assertRaises(TypeError):
                    call(board)

    def test_operators(self):
        board = board_of("click a 0 0")
        for call in (
            lambda: board + board, lambda: board - 1, lambda: 2 * board, lambda: board < board, lambda: board >= 1,
            lambda: board & board, lambda: -board, lambda: ~board, lambda: board | 1, lambda: board ** 2,
            lambda: set_item(board),
        ):
            with self.assertRaises(TypeError):
                call()

    def test_arguments_stay_as_they_are(self):
        odd = [["a", {"b": [1]}], {"click": [("a", 0, 0)]}, [0, [("fine",)]]]
        before = copy.deepcopy(odd)
        board = board_of("click a 0 0", "click b 9 90")
        for value in odd:
            for call in (lambda: board.click(value, value, value), lambda: board.click("c", value, value),
                         lambda: board.wall(value, value), lambda: board.wall("a", value), lambda: board[value],
                         lambda: board.way(value), lambda: board.again(value), lambda: read_board(BOOK, value),
                         lambda: read_board(BOOK, (value,))):
                with self.assertRaises(DrawError):
                    call()
            self.assertNotIn(value, board)
        self.assertEqual(odd, before)
        self.assertEqual(board.done, 2)
