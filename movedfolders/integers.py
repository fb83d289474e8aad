"""What counts as an integer in this package."""

# The language lets no exponent above 64, and this is 10 to the 70.
MOST_NUMBER = 10 ** 64 * 10 ** 6


def is_integer(value):
    """Tell whether a value is an int that is not a bool."""
    return isinstance(value, int) and not isinstance(value, bool)


def is_index(value, many):
    """Tell whether a value is an integer from 0 to many - 1."""
    return is_integer(value) and 0 <= value < many


def is_number(value):
    """Tell whether a value is a number as tables and claims have them."""
    return is_integer(value) and 0 <= value <= MOST_NUMBER
