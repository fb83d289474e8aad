"""How place pairs and thing pairs come about, each at its least cost.

What comes about has a key: (PLACE, a, b) for a place pair, (THING, item, a, b) for a thing pair, and
(MOVED, item, a, d) for an item that began in a and has just been moved into a place with d. A cost is
(moves, things). A source tells from what the key comes about at its least cost:
- of a place pair: () for that of the root, else (kind, a, b), the thing pair of the kind that makes it;
- of a thing pair: () if it is a place pair, else (d,), the item having been moved into a place with d;
- of what has just been moved: (rule, z), the index of the rule and the content ahead of the move.
"""

from heapq import heappop, heappush

from movedfolders.kinds import come_to, made_by

PLACE = "place"
MOVED = "moved"
THING = "thing"


def derive(house, rules):
    """Return (cost, source) for the key of all that comes about, cheapest first."""
    found = {}
    waiting = [((0, 0), (PLACE, house[1], house[1]), ())]
    # Trees have these contents alone, behind moves too.
    known = come_to(house)
    # Nothing costs less than what it comes about from, so whatever is cheapest now has its least cost.
    while waiting:
        cost, key, source = heappop(waiting)
        if key not in found:
            found[key] = (cost, source)
            for entry in _what_follows(house, rules, known, found, key):
                heappush(waiting, entry)
    return found


def thing_costs(found):
    """Return the least cost of each thing pair, by (item, a, b), of what was derived."""
    return {key[1:]: found[key][0] for key in found if key[0] == THING}


def sum_of(cost, other):
    """Return the sum of two costs, part by part."""
    return (cost[0] + other[0], cost[1] + other[1])


def _what_follows(house, rules, known, found, key):
    """Return (cost, key, source) for all that comes about from a key just found and those found before."""
    if key[0] == PLACE:
        return _from_place(house, known, found, key)
    if key[0] == MOVED:
        return _from_moved(known, found, key)
    return _from_thing(house, rules, known, found, key)


def _from_place(house, known, found, key):
    _, a, b = key
    items = range(len(house[2]) + 1)
    follow = [(found[key][0], (THING, item, a, b), ()) for item in items]
    moved = [(MOVED, item, start, a) for item in items for start in known]
    return follow + [_landed(found, one, key) for one in moved if one in found]


def _from_moved(known, found, key):
    places = [(PLACE, key[3], end) for end in known]
    return [_landed(found, key, place) for place in places if place in found]


def _landed(found, moved, place):
    """Return what comes about where an item is moved to and its new place then changes."""
    _, item, start, d = moved
    return (sum_of(found[moved][0], found[place][0]), (THING, item, start, place[2]), (d,))


def _from_thing(house, rules, known, found, key):
    _, item, a, z = key
    cost = found[key][0]
    follow = []
    if item < len(house[2]):
        place = (PLACE, made_by(house, item, a), made_by(house, item, z))
        follow.append((sum_of(cost, (0, 1)), place, (item, a, z)))
    for index, (mover, starts, ends) in enumerate(rules):
        if mover == item and z in starts:
            for d in [end for end in ends if end in known]:
                follow.append((sum_of(cost, (1, 0)), (MOVED, item, a, d), (index, z)))
    return follow
