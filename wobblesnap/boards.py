"""Boards: what is clicked and put up deed by deed, taken back, done again, and tried."""

from wobblesnap.drawing import Numbers, click_at
from wobblesnap.errors import (
    BadJournal, BadName, BadPlace, DrawError, Full, NoPoint, NoTrial, NothingToRedo, NothingToUndo, Taken,
)
from wobblesnap.forms import is_integer, is_name, signed_number_in
from wobblesnap.plans import FARTHEST, MOST_POINTS, MOST_WALLS, Plan, check_bound


class Before:
    """What a board was like when the block of a trial was entered, within which other one (elder) it was."""

    def __init__(self, board):
        self.elder = board.before
        # None, and True once keep was called: a block's end may ask a value only whether it is None (L6 With).
        self.kept = None
        self.deeds = board.deeds
        self.undone = board.undone
        self.points = board.points
        self.walls = board.walls
        self.done = board.done
        self.journal = board.journal


class Trial:
    """A block behind which a board is as it was, unless it was kept."""

    def __init__(self, board):
        self.board = board

    def __enter__(self):
        board = self.board
        board.before = Before(board)
        return board

    def __exit__(self, kind, value, trace):
        board = self.board
        if kind is not None or board.before.kept is None:
            board.deeds = board.before.deeds
            board.undone = board.before.undone
            board.points = board.before.points
            board.walls = board.before.walls
            board.done = board.before.done
            board.journal = board.before.journal
        board.before = board.before.elder


class Board:
    """Points and walls, deed by deed.

    A deed is ("click", name, x, y, place at which it is drawn, way) or ("wall", one, other); undone are those that can
    be done again, the next one last; before tells of the innermost trial.
    """

    def __init__(self, book):
        self.book = book
        self.deeds = ()
        self.undone = ()
        self.points = ()
        self.walls = ()
        self.done = 0
        self.journal = ()
        self.before = None

    def click(self, name, x, y):
        """Click one more point; the place at which it is drawn."""
        if not is_name(name):
            raise BadName(name)
        if name in self.points:
            raise Taken(name)
        if not is_on_board(x) or not is_on_board(y):
            raise BadPlace((x, y))
        if len(self.points) == MOST_POINTS:
            raise Full(MOST_POINTS)
        numbers = numbers_of(self.deeds)
        way = click_at(numbers, self.book, name, (x, y), self.points, self.walls)
        place = numbers.place_of(name)
        self.let_stand(self.deeds + (("click", name, x, y, place, way),), ())
        return place

    def wall(self, one, other):
        """Put up one more wall."""
        if one not in self:
            raise NoPoint(one)
        if other not in self or other == one:
            raise NoPoint(other)
        if len(self.walls) == MOST_WALLS:
            raise Full(MOST_WALLS)
        self.let_stand(self.deeds + (("wall", one, other),), ())

    def undo(self):
        """Take the last deed back that stands."""
        if len(self.deeds) == 0:
            raise NothingToUndo(None)
        self.let_stand(self.deeds[:-1], self.undone + self.deeds[-1:])

    def redo(self):
        """Do again what was taken back last."""
        if len(self.undone) == 0:
            raise NothingToRedo(None)
        self.let_stand(self.deeds + self.undone[-1:], self.undone[:-1])

    def let_stand(self, deeds, undone):
        """Let these deeds stand, and these be done again."""
        self.deeds = deeds
        self.undone = undone
        self.points = tuple([deed[1] for deed in deeds if deed[0] == "click"])
        self.walls = tuple([deed[1:] for deed in deeds if deed[0] == "wall"])
        self.done = len(deeds)
        self.journal = tuple([line_of(deed) for deed in deeds])

    def way(self, name):
        """How a point came: (for x, for y)."""
        return self.click_of(name)[5]

    def click_of(self, name):
        """The deed by which the point of this name came."""
        for deed in self.deeds:
            if deed[0] == "click" and deed[1] == name:
                return deed
        raise NoPoint(name)

    def again(self, bound):
        """The plan by which all is clicked again, off by at most so much."""
        check_bound(bound)
        if len(self.points) == 0:
            raise NoPoint(None)
        return Plan("\n".join([f"hand {bound}"] + [plan_line_of(deed) for deed in self.deeds]))

    def trial(self):
        """A block behind which the board is as it was, unless keep is called in it and no error leaves it."""
        return Trial(self)

    def keep(self):
        """Let what is done in the innermost trial stay."""
        before = self.before
        if before is None:
            raise NoTrial(None)
        before.kept = True

    def tried(self, look, *, keep=False):
        """What look returns of the board, called within a trial that is kept if keep is True."""
        with self.trial() as held:
            found = look(held)
            if keep is True:
                held.keep()
        return found

    def copy(self):
        """An independent board, alike in all things, outside of all trials."""
        twin = Board(self.book)
        twin.let_stand(self.deeds, self.undone)
        return twin

    def __eq__(self, other):
        return isinstance(other, Board) and self.book == other.book and self.journal == other.journal

    def __len__(self):
        return len(self.points)

    def __contains__(self, value):
        return isinstance(value, str) and value in self.points

    def __getitem__(self, name):
        return self.click_of(name)[4]

    def __iter__(self):
        raise TypeError("a board cannot be gone over")


def is_on_board(value):
    """Whether any value is an integer at which one can click."""
    return is_integer(value) and -FARTHEST <= value <= FARTHEST


def numbers_of(deeds):
    """The numbers of all points that are drawn by these deeds."""
    numbers = Numbers()
    for deed in deeds:
        if deed[0] == "click":
            numbers.put_place(deed[1], deed[4])
    return numbers


def line_of(deed):
    """The line of a journal that tells a deed."""
    if deed[0] == "click":
        return f"click {deed[1]} {deed[2]} {deed[3]}"
    return f"wall {deed[1]} {deed[2]}"


def plan_line_of(deed):
    """The line of a plan that tells a deed."""
    if deed[0] == "click":
        return f"point {deed[1]} at {deed[2]} {deed[3]}"
    return f"wall {deed[1]} {deed[2]}"


def read_board(book, lines):
    """The board on which the lines of a journal were done."""
    if not isinstance(lines, tuple):
        raise BadJournal(0)
    board = Board(book)
    for number, line in enumerate(lines, 1):
        if not isinstance(line, str) or not do_line(board, line.split(" ")):
            raise BadJournal(number)
    return board


def do_line(board, words):
    """Do what the words of a journal's line tell; whether this can be done."""
    try:
        if words[0] == "click" and len(words) == 4:
            board.click(words[1], signed_number_in(words[2], FARTHEST), signed_number_in(words[3], FARTHEST))
        elif words[0] == "wall" and len(words) == 3:
            board.wall(words[1], words[2])
        else:
            return False
    except DrawError:
        return False
    return True
