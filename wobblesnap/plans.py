"""Plans: what each click is aimed at, how much it is off at most, and which walls there are."""

from wobblesnap.errors import BadNumber, BadPlan, NoPoint
from wobblesnap.forms import is_integer, is_name, number_in, signed_number_in

GREATEST_BOUND = 99
MOST_POINTS = 6
MOST_WALLS = 4
FARTHEST = 999
# How many words there are up to where within may stand. They are counted, since points may be called within, too.
WORDS = {"at": 5, "by": 6, "cross": 5}


class Plan:
    """One to six points that are aimed at, and none to four walls."""

    def __init__(self, text):
        if not isinstance(text, str):
            raise BadPlan(0)
        lines = text.split("\n")
        hand = read_hand(lines[0], GREATEST_BOUND)
        if hand is None:
            raise BadPlan(1)
        clicks, walls = read_clicks(lines[1:], 2, hand)
        if not clicks:
            raise BadPlan(len(lines) + 1)
        self.text = text
        self.hand = hand
        self.points = tuple([click[0] for click in clicks])
        self.walls = tuple(walls)
        # For each point (name, aim, bound, walls above it).
        self.clicks = tuple(clicks)

    def by_hand(self, bound):
        """The plan with this bound in its first line."""
        check_bound(bound)
        return Plan("\n".join([f"hand {bound}"] + self.text.split("\n")[1:]))

    def __eq__(self, other):
        return isinstance(other, Plan) and self.text == other.text

    def __len__(self):
        return len(self.points)

    def __contains__(self, value):
        return isinstance(value, str) and value in self.points

    def __getitem__(self, name):
        for known, aim, bound, _ in self.clicks:
            if name == known:
                return aim, bound
        raise NoPoint(name)

    def __iter__(self):
        raise TypeError("a plan cannot be gone over")


def check_bound(value):
    """Refuse any value that is no integer from 0 to 99."""
    if not is_integer(value) or not 0 <= value <= GREATEST_BOUND:
        raise BadNumber(value)


def read_hand(line, most):
    """The number, up to this one, of the first line, or None if it is no such line."""
    words = line.split(" ")
    if len(words) != 2 or words[0] != "hand":
        return None
    return number_in(words[1], 0, most)


def read_clicks(lines, first, hand):
    """(clicks, walls) of the lines, the first one of which has this number in its text."""
    clicks = []
    walls = []
    for number, line in enumerate(lines, first):
        words = line.split(" ")
        names = [click[0] for click in clicks]
        wall = wall_in(words, names)
        point = point_in(words, names, hand)
        if wall is not None and len(walls) < MOST_WALLS:
            walls.append(wall)
        elif point is not None and len(clicks) < MOST_POINTS:
            clicks.append(point + (tuple(walls),))
        else:
            raise BadPlan(number)
    return clicks, walls


def wall_in(words, names):
    """The (one, other) of the words of a wall's line, below points of these names, or None."""
    if len(words) != 3 or words[0] != "wall" or words[1] == words[2]:
        return None
    if words[1] not in names or words[2] not in names:
        return None
    return words[1], words[2]


def point_in(words, names, hand):
    """The (name, aim, bound) of the words of a point's line, below points of these names, or None."""
    if len(words) < 3 or words[0] != "point" or words[2] not in WORDS:
        return None
    many = WORDS[words[2]]
    aim = aim_in(words[2:many], names)
    bound = bound_in(words[many:], hand)
    if not is_name(words[1]) or words[1] in names or aim is None or bound is None:
        return None
    return words[1], aim, bound


def aim_in(words, names):
    """The aim that these words tell, below points of these names, or None."""
    if words[0] == "cross":
        return cross_in(words, names)
    numbers = [signed_number_in(word, FARTHEST) for word in words[-2:]]
    if None in numbers:
        return None
    if words[0] == "at" and len(words) == 3:
        return "at", numbers[0], numbers[1]
    if words[0] == "by" and len(words) == 4 and words[1] in names:
        return "by", words[1], numbers[0], numbers[1]
    return None


def cross_in(words, names):
    """The aim at the x of one and the y of the other point, or None."""
    if len(words) != 3 or words[1] not in names or words[2] not in names:
        return None
    return "cross", words[1], words[2]


def bound_in(words, hand):
    """The number behind within, or that of the hand if there are no words; None if there are others."""
    if not words:
        return hand
    if len(words) != 2 or words[0] != "within":
        return None
    return number_in(words[1], 0, GREATEST_BOUND)
