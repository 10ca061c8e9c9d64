"""What all of the package means by an integer, a name, a place, an axis, and a number in a text."""

LETTERS = "abcdefghijklmnopqrstuvwxyz"
DIGITS = "0123456789"
LONGEST_NAME = 8
LONGEST_NUMBER = 9
MOST_FIGURES = 900
AXES = ("x", "y")


def is_integer(value):
    """Whether any value is an integer."""
    # A bool is an int for Python, but it is no integer here.
    return isinstance(value, int) and not isinstance(value, bool)


def is_name(value):
    """Whether any value is a name."""
    return isinstance(value, str) and 1 <= len(value) <= LONGEST_NAME and consists_of(value, LETTERS)


def is_place(value):
    """Whether any value is a place."""
    return isinstance(value, tuple) and len(value) == 2 and is_integer(value[0]) and is_integer(value[1])


def are_places(value, many):
    """Whether any value is a tuple of so many places."""
    return isinstance(value, tuple) and len(value) == many and all([is_place(place) for place in value])


def is_axis(value):
    """Whether any value is an axis."""
    return isinstance(value, str) and value in AXES


def is_just(value, told):
    """Whether any value is just these integers and strings, or tuples of such."""
    if isinstance(told, tuple):
        if not isinstance(value, tuple) or len(value) != len(told):
            return False
        return all([is_just(part, known) for part, known in zip(value, told)])
    if isinstance(told, str):
        return isinstance(value, str) and value == told
    return is_integer(value) and value == told


def consists_of(text, signs):
    """Whether each sign of the text is one of these signs."""
    return all([sign in signs for sign in text])


def number_in(word, low, high):
    """The number that a word of a text is, if it is one from low (not below 0) to high, otherwise None."""
    # Python refuses to read endless figures, so these do not reach int.
    if not 1 <= len(word) <= LONGEST_NUMBER or not consists_of(word, DIGITS):
        return None
    number = int(word)
    if str(number) != word or not low <= number <= high:
        return None
    return number


def integer_in(word):
    """The integer that a word of a text is as Python writes it, otherwise None."""
    figures = word.removeprefix("-")
    if not 1 <= len(figures) <= MOST_FIGURES or not consists_of(figures, DIGITS):
        return None
    number = int(word)
    if str(number) != word:
        return None
    return number


def signed_number_in(word, most):
    """The number that a word of a text is, "-" being ahead below 0, if it is one from -most to most, otherwise None."""
    if not word.startswith("-"):
        return number_in(word, 0, most)
    number = number_in(word[1:], 1, most)
    if number is None:
        return None
    return -number
