"""Plans and deeds: what is to be added and moved, so that a thing comes to a content."""

from movedfolders.trees import ROOT
from movedfolders.unfolding import spread
from movedfolders.ways import STAY

MOST_DEEDS = 400
# The word of each deed, and how many parts it has with it.
MANY_PARTS = {"add": 3, "move": 3, "drop": 2}


def are_deeds(value):
    """Tell whether any value is a tuple of deeds, whatever their parts are."""
    if not isinstance(value, tuple) or len(value) > MOST_DEEDS:
        return False
    return all([_is_deed(deed) for deed in value])


def plan_along(path, way, first):
    """Return the deeds by which the things of a path go a way, what is added being numbered from first on."""
    adds, moves = [], []
    for thing, entry in zip(path, way):
        if entry != STAY:
            # What is added for a thing is its own: nothing that is there already is made use of.
            others, place, steps = spread(entry[1])
            numbers = _numbers(len(others), first + len(adds), thing)
            adds.extend([("add", item, numbers[above]) for item, above in others])
            moves.append(("move", thing, numbers[place]))
            moves.extend([("move", numbers[mover], numbers[target]) for mover, target in steps])
    return tuple(adds + moves)


def _is_deed(value):
    if not isinstance(value, tuple) or len(value) == 0 or not isinstance(value[0], str):
        return False
    return MANY_PARTS.get(value[0]) == len(value)


def _numbers(many, start, thing):
    """Return the number of each place and thing of an unfolded course: so many others, and behind them the thing."""
    numbers = {ROOT: ROOT, many: thing}
    for k in range(many):
        numbers[k] = start + k
    return numbers
