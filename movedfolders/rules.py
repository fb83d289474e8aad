"""Rules: which items may be moved, from which contents to which."""

from movedfolders.errors import InvalidRules
from movedfolders.houses import are_contents
from movedfolders.integers import is_index

MOST_RULES = 6


def require_rules(house, value):
    """Return a value that is rules for the house; raise InvalidRules for any other."""
    if not isinstance(value, tuple) or len(value) > MOST_RULES:
        raise InvalidRules(None)
    for index, rule in enumerate(value):
        if not _is_rule(house, rule):
            raise InvalidRules(index)
    return value


def is_item(house, value):
    """Tell whether any value is an item: a kind of the house, or the leaf behind them."""
    return is_index(value, len(house[2]) + 1)


def is_folder(house, item):
    """Tell whether an item is a folder, and not the leaf."""
    return item < len(house[2])


def letting_rule(rules, item, start, end):
    """Return the least index of a rule that lets an item go from one content to another, or None."""
    for index, (mover, starts, ends) in enumerate(rules):
        if mover == item and start in starts and end in ends:
            return index
    return None


def _is_rule(house, value):
    if not isinstance(value, tuple) or len(value) != 3:
        return False
    item, start, end = value
    if not is_item(house, item):
        return False
    return are_contents(house[0], start) and are_contents(house[0], end)
