"""What all of the package means by an integer, a name, and a number in a text."""

LETTERS = "abcdefghijklmnopqrstuvwxyz"
DIGITS = "0123456789"
LONGEST_NAME = 8
LONGEST_NUMBER = 9


def is_integer(value):
    """Whether any value is an integer."""
    # A bool is an int for Python, but it is no integer here.
    return isinstance(value, int) and not isinstance(value, bool)


def is_name(value):
    """Whether any value is a name."""
    return isinstance(value, str) and 1 <= len(value) <= LONGEST_NAME and consists_of(value, LETTERS)


def consists_of(text, signs):
    """Whether each sign of the text is one of these signs."""
    return all([sign in signs for sign in text])


def number_in(word, low, high):
    """The number that a word of a text is, if it is one from low (not below 0) to high, otherwise None."""
    # Python refuses to read endless figures, so these do not reach int.
    if not 1 <= len(word) <= LONGEST_NUMBER or not consists_of(word, DIGITS):
        return None
    number = int(word)
    if str(number) != word or not low <= number <= high:
        return None
    return number
