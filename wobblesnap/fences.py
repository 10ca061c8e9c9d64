"""Fences: bays that are clicked on and on, each one beside points of the one ahead."""

from wobblesnap.baylines import read_bay
from wobblesnap.drawing import Numbers, click_at, is_near_aim
from wobblesnap.errors import BadBay, BadHands, BadStanding, NoGrid, TooMany
from wobblesnap.forms import AXES, are_places, is_just, is_place
from wobblesnap.rules import aimed_at
from wobblesnap.wishes import answer_of, check_wish

MOST_STANDINGS = 300


class Bay:
    """One or two points that stand ahead, one or two own ones, and which of them go on."""

    def __init__(self, text):
        if not isinstance(text, str):
            raise BadBay(0)
        hand, starts, clicks, walls, goes = read_bay(text)
        self.text = text
        self.hand = hand
        self.starts = starts
        self.points = tuple([click[0] for click in clicks])
        self.walls = walls
        self.goes = goes
        # The names of all points, and for each own one (name, aim, bound, walls above it).
        self.names = tuple([name for name, _ in starts]) + self.points
        self.clicks = clicks

    def __eq__(self, other):
        return isinstance(other, Bay) and self.text == other.text


def behind(book, bay, standing, hands):
    """(drawn, standing): the places of a bay's own points, and the standing of the next bay."""
    check_no_grid(book)
    if not is_standing(bay, standing):
        raise BadStanding(standing)
    if not are_places(hands, len(bay.points)):
        raise BadHands(hands)
    numbers = drawn_in(book, bay, standing, hands)
    return tuple([numbers.place_of(name) for name in bay.points]), standing_behind(bay, numbers)


def fence(book, bay, wish):
    """("sure", standings) if each bay keeps the wish, otherwise ("fails", rows) with as few bays as can be."""
    check_no_grid(book)
    check_wish(bay.names, wish)
    first = first_standing(bay)
    # For each standing the hands of as few bays as lead to it.
    rows = {first: ()}
    level = [first]
    while len(level) > 0:
        later = {}
        for standing in level:
            for hands, numbers in drawings_in(book, bay, standing):
                row = rows[standing] + (hands,)
                if not answer_of(numbers, wish):
                    return "fails", row
                later[standing_behind(bay, numbers)] = row
        level = [standing for standing in later if standing not in rows]
        for standing in level:
            rows[standing] = later[standing]
        if len(rows) > MOST_STANDINGS:
            raise TooMany(MOST_STANDINGS)
    return "sure", tuple(sorted(rows))


def shows_fence(book, bay, wish, value):
    """Whether any value is a right answer of fence."""
    kind, told = fence(book, bay, wish)
    if not isinstance(value, tuple) or len(value) != 2 or not is_just(value[0], kind):
        return False
    if kind == "fails":
        return are_failing_rows(book, bay, wish, len(told), value[1])
    return are_sure_standings(book, bay, wish, value[1])


def check_no_grid(book):
    """Refuse a book with a grid: by it bays would not be drawn alike wherever they stand."""
    if "grid" in book:
        raise NoGrid(book)


def is_standing(bay, value):
    """Whether any value is a standing of this bay."""
    if len(bay.starts) == 1:
        return is_just(value, ())
    return is_place(value)


def first_standing(bay):
    """The standing ahead of the first bay."""
    if len(bay.starts) == 1:
        return ()
    return bay.starts[1][1]


def standing_behind(bay, numbers):
    """The standing of the next bay, by all that is drawn in this one."""
    if len(bay.goes) == 1:
        return ()
    first, second = bay.goes
    return numbers.less("x", second, first), numbers.less("y", second, first)


def opened(bay, standing):
    """The numbers of what stands there ahead of the clicks of a bay."""
    numbers = Numbers()
    for (name, _), place in zip(bay.starts, ((0, 0), standing)):
        numbers.put_place(name, place)
    return numbers


def click_in(numbers, book, bay, at, hand):
    """Click the own point of this number, from 0, at a place."""
    name, _, _, walls = bay.clicks[at]
    click_at(numbers, book, name, hand, bay.names[:len(bay.starts) + at], walls)


def drawn_in(book, bay, standing, hands):
    """The numbers of all that is drawn in a bay by these hands."""
    numbers = opened(bay, standing)
    for at, hand in enumerate(hands):
        click_in(numbers, book, bay, at, hand)
    return numbers


def drawings_in(book, bay, standing):
    """A (hands, numbers) for each drawing that steady hands can make in a bay."""
    found = [((), opened(bay, standing))]
    for at in range(len(bay.points)):
        found = [longer for hands, numbers in found for longer in clicked(book, bay, at, hands, numbers)]
    return found


def clicked(book, bay, at, hands, numbers):
    """The (hands, numbers) behind the click of this number, from 0: one for each place at which it can be drawn."""
    name, aim, bound, _ = bay.clicks[at]
    found = {}
    for hand in steady_places(numbers, aim, bound):
        # It depends only on what was drawn ahead where a click comes to, not on what the last one left here.
        click_in(numbers, book, bay, at, hand)
        found[numbers.place_of(name)] = hand
    longer = []
    for place, hand in found.items():
        twin = numbers.branched()
        twin.put_place(name, place)
        longer.append((hands + (hand,), twin))
    return longer


def steady_places(numbers, aim, bound):
    """All places at which a click with this aim can be."""
    ranges = []
    for axis in AXES:
        term, number = aimed_at(aim, axis)
        middle = numbers.worth[axis][term] + number
        ranges.append(list(range(middle - bound, middle + bound + 1)))
    return [(x, y) for x in ranges[0] for y in ranges[1]]


def are_failing_rows(book, bay, wish, many, value):
    """Whether any value is steady hands of so many bays, the last one of which does not keep the wish."""
    if not isinstance(value, tuple) or len(value) != many:
        return False
    standing = first_standing(bay)
    kept = True
    for hands in value:
        if not are_places(hands, len(bay.points)):
            return False
        numbers = drawn_in(book, bay, standing, hands)
        if not all([is_near_aim(numbers, name, (aim, bound)) for name, aim, bound, _ in bay.clicks]):
            return False
        kept = answer_of(numbers, wish)
        standing = standing_behind(bay, numbers)
    return not kept


def are_sure_standings(book, bay, wish, value):
    """Whether any value is ascending standings, with the first one, behind each of which all goes on as it should."""
    if not isinstance(value, tuple) or not all([is_standing(bay, standing) for standing in value]):
        return False
    if not all([elder < standing for elder, standing in zip(value, value[1:])]):
        return False
    known = {standing: True for standing in value}
    if first_standing(bay) not in known:
        return False
    for standing in value:
        for _, numbers in drawings_in(book, bay, standing):
            if not answer_of(numbers, wish) or standing_behind(bay, numbers) not in known:
                return False
    return True
