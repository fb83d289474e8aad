"""Tables: from where to where things can come, and at what cost, in a form that is checked row by row."""

from movedfolders.derivations import MOVED, PLACE, THING, derive, sum_of
from movedfolders.houses import is_content
from movedfolders.integers import is_number
from movedfolders.kinds import made_by
from movedfolders.rules import is_item


def least_table(house, rules):
    """Return the table of all pairs that there are, each with its least cost."""
    return table_of(derive(house, rules))


def fewest(house, rules, item, a, b):
    """Return the least cost of a thing pair, (moves, things), or None if it is none."""
    found = derive(house, rules)
    key = (THING, item, a, b)
    return found[key][0] if key in found else None


def is_closed(house, rules, value):
    """Tell whether any value is a table that is closed for the rules."""
    return is_table(house, value) and table_fault(house, rules, value) is None


def table_of(found):
    """Return the least table by what was derived."""
    return (_rows(found, PLACE), _rows(found, MOVED), _rows(found, THING))


def costs_of(rows):
    """Return the cost of each row of a table, by what stands ahead of its cost."""
    return {row[:-2]: row[-2:] for row in rows}


def is_table(house, value):
    """Tell whether any value has the form of a table; it may still not be closed."""
    if not isinstance(value, tuple) or len(value) != 3:
        return False
    places, moved, things = value
    return _are_place_rows(house, places) and _are_item_rows(house, moved) and _are_item_rows(house, things)


def table_fault(house, rules, table):
    """Return the first demand of a closed table that is not met, or None; see point 18."""
    places, moved, things = costs_of(table[0]), costs_of(table[1]), costs_of(table[2])
    return (
        _start_fault(house, places)
        or _thing_fault(house, places, things)
        or _move_fault(rules, moved, things)
        or _land_fault(moved, things)
        or _place_fault(house, places, things)
    )


def _rows(found, word):
    """Return the ascending tuple of the rows for all keys with a word."""
    return tuple(sorted([key[1:] + found[key][0] for key in found if key[0] == word]))


def _are_place_rows(house, value):
    if not isinstance(value, tuple) or not all([_is_place_row(house, row) for row in value]):
        return False
    return _ascend([row[:2] for row in value])


def _are_item_rows(house, value):
    if not isinstance(value, tuple) or not all([_is_item_row(house, row) for row in value]):
        return False
    return _ascend([row[:3] for row in value])


def _is_place_row(house, value):
    """Tell whether any value is (content, content, number, number)."""
    if not isinstance(value, tuple) or len(value) != 4:
        return False
    a, b, moves, things = value
    if not is_content(house[0], a) or not is_content(house[0], b):
        return False
    return is_number(moves) and is_number(things)


def _is_item_row(house, value):
    """Tell whether any value is (item, content, content, number, number)."""
    if not isinstance(value, tuple) or len(value) != 5:
        return False
    return is_item(house, value[0]) and _is_place_row(house, value[1:])


def _ascend(keys):
    return all([low < high for low, high in zip(keys, keys[1:])])


def _is_missing(costs, key, most):
    """Tell whether there is no row for the key, or one that costs more than this."""
    return key not in costs or costs[key] > most


def _start_fault(house, places):
    if _is_missing(places, (house[1], house[1]), (0, 0)):
        return ("start",)
    return None


def _thing_fault(house, places, things):
    for k, pair in enumerate(places):
        for item in range(len(house[2]) + 1):
            if _is_missing(things, (item,) + pair, places[pair]):
                return ("thing", k, item)
    return None


def _move_fault(rules, moved, things):
    firsts = {key[:2]: True for key in things}
    for k, key in enumerate(things):
        for r, c, d in _ends_of_moves(rules, firsts, key):
            if _is_missing(moved, (key[0], key[1], d), sum_of(things[key], (1, 0))):
                return ("move", k, r, c)
    return None


def _ends_of_moves(rules, firsts, key):
    """Return (rule, index in its to, content) for each move that a thing pair asks for."""
    item, _, z = key
    return [
        (r, c, d)
        for r, (mover, starts, ends) in enumerate(rules)
        if mover == item and z in starts
        for c, d in enumerate(ends)
        if (item, d) in firsts
    ]


def _land_fault(moved, things):
    behind = {}
    for place, (item, start, end) in enumerate(things):
        behind.setdefault((item, start), []).append((place, end))
    for k, (item, a, d) in enumerate(moved):
        for place, end in behind.get((item, d), []):
            most = sum_of(moved[(item, a, d)], things[(item, d, end)])
            if _is_missing(things, (item, a, end), most):
                return ("land", k, place)
    return None


def _place_fault(house, places, things):
    for k, (item, a, b) in enumerate(things):
        if item < len(house[2]):
            pair = (made_by(house, item, a), made_by(house, item, b))
            if _is_missing(places, pair, sum_of(things[(item, a, b)], (0, 1))):
                return ("place", k)
    return None
