"""The text of a bay, line by line."""

from wobblesnap.errors import BadBay
from wobblesnap.forms import is_name, signed_number_in
from wobblesnap.plans import FARTHEST, point_in, read_hand, wall_in

GREATEST_BOUND = 2
MOST_STARTS = 2
MOST_POINTS = 2
MOST_WALLS = 2


def read_bay(text):
    """(hand, starts, clicks, walls, goes) of the text of a bay."""
    lines = text.split("\n")
    hand = read_hand(lines[0], GREATEST_BOUND)
    if hand is None:
        raise BadBay(1)
    starts = read_starts(lines[1:])
    if len(starts) == 0:
        raise BadBay(2)
    clicks, walls, goes = read_rest(lines[1 + len(starts):], 2 + len(starts), hand, [name for name, _ in starts])
    if goes is None:
        raise BadBay(len(lines) + 1)
    return hand, tuple(starts), tuple(clicks), tuple(walls), goes


def read_starts(lines):
    """The (name, place) of the first ones of these lines, as many as are such."""
    starts = []
    for line in lines[:MOST_STARTS]:
        start = start_in(line.split(" "), starts)
        if start is None:
            break
        starts.append(start)
    return starts


def start_in(words, starts):
    """The (name, place) of the words of a line, below these starts, or None."""
    if len(words) != 4 or words[0] != "from" or not is_name(words[1]) or words[1] in [name for name, _ in starts]:
        return None
    place = signed_number_in(words[2], FARTHEST), signed_number_in(words[3], FARTHEST)
    if None in place:
        return None
    # All places of a bay are counted from its first point.
    if len(starts) == 0 and place != (0, 0):
        return None
    return words[1], place


def read_rest(lines, first, hand, starts):
    """(clicks, walls, goes) of the lines behind the starts of these names, the first one of which has this number."""
    clicks = []
    walls = []
    goes = None
    for number, line in enumerate(lines, first):
        words = line.split(" ")
        names = starts + [click[0] for click in clicks]
        wall = wall_in(words, names)
        point = own_point_in(words, names, hand)
        if goes is not None:
            raise BadBay(number)
        if wall is not None and len(walls) < MOST_WALLS:
            walls.append(wall)
        elif point is not None and len(clicks) < MOST_POINTS:
            clicks.append(point + (tuple(walls),))
        elif are_goes(words, names, len(starts)) and len(clicks) > 0:
            goes = tuple(words[1:])
        else:
            raise BadBay(number)
    return clicks, walls, goes


def own_point_in(words, names, hand):
    """The (name, aim, bound) of the words of a bay's own point, below points of these names, or None."""
    point = point_in(words, names, hand)
    if point is None or point[1][0] == "at" or point[2] > GREATEST_BOUND:
        return None
    return point


def are_goes(words, names, many):
    """Whether these are the words of the last line of a bay with points of these names, so many of which go on."""
    going = words[1:]
    if words[0] != "goes" or len(going) != many or len(set(going)) != many:
        return False
    return all([name in names for name in going])
