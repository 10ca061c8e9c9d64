"""A desk: a board to which one speaks in lines."""

from wobblesnap.boards import Board
from wobblesnap.books import Book
from wobblesnap.coming import safest
from wobblesnap.errors import BadSay
from wobblesnap.forms import integer_in

# How many words each line has.
FORMS = {"click": 4, "wall": 3, "undo": 1, "redo": 1, "where": 2, "safe": 4}
SAFE_WORDS = ("same", "level", "upright")


class Desk:
    """A board by the book of this text."""

    def __init__(self, text):
        self.board = Board(Book(text))

    def say(self, line):
        """Do what a line tells, and answer it."""
        words = words_of(line)
        if words is None:
            raise BadSay(line)
        board = self.board
        if words[0] == "click":
            return place_told(board.click(words[1], integer_in(words[2]), integer_in(words[3])))
        if words[0] == "where":
            return place_told(board[words[1]])
        if words[0] == "safe":
            return str(safest(board.book, board.again(0), (tuple(words[1:]),))[0])
        if words[0] == "wall":
            board.wall(words[1], words[2])
        elif words[0] == "undo":
            board.undo()
        else:
            board.redo()
        return "done"


def words_of(value):
    """The words of any value, if it is a line of one of the forms, otherwise None."""
    if not isinstance(value, str) or "\n" in value:
        return None
    words = value.split(" ")
    if "" in words or words[0] not in FORMS or len(words) != FORMS[words[0]]:
        return None
    if words[0] == "click" and None in [integer_in(word) for word in words[2:]]:
        return None
    if words[0] == "safe" and words[1] not in SAFE_WORDS:
        return None
    return words


def place_told(place):
    """The x and the y of a place, parted by a blank."""
    x, y = place
    return f"{x} {y}"
