"""What counts as an integer in this package."""


def is_integer(value):
    """Tell whether a value is an int that is not a bool."""
    return isinstance(value, int) and not isinstance(value, bool)


def is_index(value, many):
    """Tell whether a value is an integer from 0 to many - 1."""
    return is_integer(value) and 0 <= value < many
