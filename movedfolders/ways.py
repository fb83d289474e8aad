"""Ways: how the things of a path, one after the other, come to have other contents."""

from movedfolders.courses import course_cost, course_fault, course_pair, is_course_form
from movedfolders.derivations import THING
from movedfolders.integers import is_index
from movedfolders.kinds import made_by
from movedfolders.ledgers import cheapest_course
from movedfolders.levels import sources_to
from movedfolders.rules import is_folder

STAY = ()


def is_way(house, rules, items, value):
    """Tell whether any value has the form of a way for a path with these items; it may still have faults."""
    if not isinstance(value, tuple) or len(value) != len(items):
        return False
    return all([_is_entry(house, rules, entry) for entry in value])


def way_fault(house, rules, items, way):
    """Return ("entry", j, f) for the first entry with a fault, or None; see point 18."""
    ahead = [pair[0] for pair in _entry_pairs(house, rules, items, way)]
    for j, entry in enumerate(way):
        fault = _entry_fault(house, rules, items[j], ahead[j], entry)
        if fault is not None:
            return ("entry", j, fault)
    return None


def way_end(house, rules, items, way):
    """Return the content to which a way leads."""
    return _entry_pairs(house, rules, items, way)[-1][1]


def way_moves(house, rules, items, way):
    """Return how many moves a way has."""
    pairs = [(item, entry[1]) for item, entry in zip(items, way) if entry != STAY]
    return sum([1 + course_cost(house, rules, item, course)[0] for item, course in pairs])


def way_along(found, levels, items, content):
    """Return a way of least cost to a content, by what was derived and the levels of the path."""
    return tuple([
        STAY if source == () else (source[0], cheapest_course(found, (THING, item, source[2], end)))
        for item, (source, end) in zip(items, sources_to(levels, content))
    ])


def _is_entry(house, rules, value):
    if value == STAY:
        return True
    if not isinstance(value, tuple) or len(value) != 2:
        return False
    return is_index(value[0], len(rules)) and is_course_form(house, rules, value[1])


def _entry_pairs(house, rules, items, way):
    """Return (content ahead of it, content behind it) for each entry of a way."""
    pairs = []
    ahead = house[1]
    for item, entry in zip(items, way):
        behind = ahead if entry == STAY else course_pair(house, rules, item, entry[1])[1]
        pairs.append((ahead, behind))
        if is_folder(house, item):
            ahead = made_by(house, item, behind)
    return pairs


def _entry_fault(house, rules, item, content, entry):
    """Return the first fault of an entry for a thing of the item that has the content, or None."""
    if entry == STAY:
        return None
    rule, course = entry
    mover, starts, ends = rules[rule]
    if mover != item:
        return ("rule",)
    if content not in starts:
        return ("from",)
    fault = course_fault(house, rules, item, course)
    if fault is not None:
        return ("course", fault)
    if course_pair(house, rules, item, course)[0] not in ends:
        return ("to",)
    return None
