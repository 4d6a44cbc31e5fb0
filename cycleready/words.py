"""Names, integers, counts and variables: the words of which programs consist."""

from cycleready.errors import InvalidName

VARIABLES = ("a", "b", "c", "d")
LONGEST_NAME = 8


def is_integer(value):
    """Return whether a value is an integer."""
    # A bool is an int for Python, but True must never pass for 1.
    return isinstance(value, int) and not isinstance(value, bool)


def is_count(value):
    """Return whether a value is an integer that is at least 0."""
    return is_integer(value) and value >= 0


def is_name(value):
    """Return whether a value is a string of one to eight characters from a to z."""
    if not isinstance(value, str) or not 1 <= len(value) <= LONGEST_NAME:
        return False
    return all(["a" <= letter <= "z" for letter in value])


def check_name(value):
    """Raise InvalidName for a value that is not a name."""
    if not is_name(value):
        raise InvalidName(value)


def bare_word(word):
    """Return a string of exactly these characters."""
    # A subclass of str may show itself in another way, so objects keep its characters alone.
    return "".join([word])


def is_variable(value):
    """Return whether a value is one of the four variables."""
    # Without the first test, a foreign object could claim to be equal to "a".
    return isinstance(value, str) and value in VARIABLES


def is_decimal(word):
    """Return whether a string is an integer, written as in the text of a step."""
    digits = word.removeprefix("-")
    if digits == "" or not all(["0" <= digit <= "9" for digit in digits]):
        return False
    return digits[0] != "0" or word == "0"
