"""Houses: the cells of a content, the content to begin with, and the kinds of folders."""

from movedfolders.errors import InvalidHouse
from movedfolders.integers import is_index, is_integer

MOST_CELLS = 3
LEAST_SIZE = 2
MOST_SIZE = 8
MOST_CONTENTS = 8
MOST_KINDS = 5
MOST_STEPS = 6


def require_house(value):
    """Return a value that is a house; raise InvalidHouse for any other."""
    if not _is_frame(value):
        raise InvalidHouse(None)
    sizes, begin, kinds = value
    if not are_sizes(sizes):
        raise InvalidHouse(("sizes",))
    if not is_content(sizes, begin):
        raise InvalidHouse(("begin",))
    for k, kind in enumerate(kinds):
        if not is_kind(sizes, kind):
            raise InvalidHouse(("kind", k))
    return value


def contents(house):
    """Return the ascending tuple of all contents of a house."""
    found = [()]
    for size in house[0]:
        found = [head + (value,) for head in found for value in range(size)]
    return tuple(found)


def are_sizes(value):
    """Tell whether any value is the sizes of the cells of a house."""
    if not isinstance(value, tuple) or not 1 <= len(value) <= MOST_CELLS:
        return False
    many = 1
    for size in value:
        if not is_integer(size) or not LEAST_SIZE <= size <= MOST_SIZE:
            return False
        many = many * size
    return many <= MOST_CONTENTS


def is_content(sizes, value):
    """Tell whether any value is a content for cells of these sizes."""
    if not isinstance(value, tuple) or len(value) != len(sizes):
        return False
    return all([is_index(part, size) for part, size in zip(value, sizes)])


def are_contents(sizes, value):
    """Tell whether any value is a strictly ascending tuple of contents, not ()."""
    if not isinstance(value, tuple) or len(value) == 0:
        return False
    # Other values must be ruled out first: some of them Python cannot order.
    if not all([is_content(sizes, part) for part in value]):
        return False
    return all([low < high for low, high in zip(value, value[1:])])


def is_kind(sizes, value):
    """Tell whether any value is a kind of folder for cells of these sizes."""
    if not isinstance(value, tuple) or len(value) > MOST_STEPS:
        return False
    return all([_is_step(sizes, step) for step in value])


def _is_frame(value):
    if not isinstance(value, tuple) or len(value) != 3:
        return False
    return isinstance(value[2], tuple) and 1 <= len(value[2]) <= MOST_KINDS


def _is_step(sizes, value):
    if isinstance(value, tuple) and len(value) == 5:
        return _is_when(sizes, value)
    return _is_plain_step(sizes, value)


def _is_when(sizes, value):
    word, cell, low, high, step = value
    if word != "when" or not is_index(cell, len(sizes)):
        return False
    if not is_index(low, sizes[cell]) or not is_index(high, sizes[cell]) or low > high:
        return False
    return _is_plain_step(sizes, step)


def _is_plain_step(sizes, value):
    """Tell whether any value is a step that is no when."""
    if not isinstance(value, tuple) or len(value) != 3:
        return False
    word, cell, last = value
    if not is_index(cell, len(sizes)):
        return False
    if word == "copy":
        return is_index(last, len(sizes)) and last != cell
    return word in ("set", "raise", "lower") and is_index(last, sizes[cell])
