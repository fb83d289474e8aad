"""Levels: what each thing of a path, and the place in which it lies, can come to have, at the least cost.

A level is a pair (place, thing) of dicts from contents to (cost, source). In place the source is the content of the
folder above that makes this one, None for the root. In thing it is () where the thing's place has the content, or
(rule, z, d) where the thing, its content being z, is moved by the rule into a place with d.
"""

from movedfolders.derivations import sum_of
from movedfolders.kinds import made_by
from movedfolders.rules import is_folder


def path_levels(house, rules, costs, items):
    """Return the list of the levels of a path, by the items of its things, from the root down, and costs of pairs.

    The costs, by (item, d, e), are those of the thing pairs or of the rows of a closed table.
    """
    jumps = _jumps(rules, costs)
    place = {house[1]: ((0, 0), None)}
    found = []
    for item in items:
        thing = _moved_on(jumps, item, place)
        found.append((place, thing))
        if is_folder(house, item):
            place = _made_inside(house, item, thing)
    return found


def reached(levels):
    """Return the cost of each content that the last thing of a path can come to have."""
    thing = levels[-1][1]
    return {content: thing[content][0] for content in thing}


def sources_to(levels, content):
    """Return (source, content) for each thing of a path, by which the last one comes to a content at its least cost."""
    found = []
    for place, thing in reversed(levels):
        source = thing[content][1]
        found.append((source, content))
        ahead = content if source == () else source[1]
        content = place[ahead][1]
    return found[::-1]


def _jumps(rules, costs):
    """Return, by (item, z), a dict from each content behind a move to (cost, rule, d)."""
    found = {}
    for rule, (mover, starts, ends) in enumerate(rules):
        for item, d, e in costs:
            if item == mover and d in ends:
                entry = (sum_of(costs[(item, d, e)], (1, 0)), rule, d)
                for z in starts:
                    _keep_least(found.setdefault((item, z), {}), e, entry)
    return found


def _moved_on(jumps, item, place):
    """Return what a thing can come to have in a place.

    One move into another place is enough: a second one is a part of what comes of that place by pairs.
    """
    thing = {content: (place[content][0], ()) for content in place}
    for z in place:
        ahead = jumps.get((item, z), {})
        for e in ahead:
            cost, rule, d = ahead[e]
            _keep_least(thing, e, (sum_of(place[z][0], cost), (rule, z, d)))
    return thing


def _made_inside(house, kind, thing):
    """Return what the inside of a folder can come to have."""
    place = {}
    for content in thing:
        _keep_least(place, made_by(house, kind, content), (thing[content][0], content))
    return place


def _keep_least(found, content, entry):
    """Keep an entry that begins with a cost, unless there is one that costs no more."""
    if content not in found or entry[0] < found[content][0]:
        found[content] = entry
