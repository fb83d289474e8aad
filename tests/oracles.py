"""What the document says, written once more, slowly and word by word, for the tests to compare with."""

from movedfolders.houses import contents
from movedfolders.kinds import after

BIG = 10 ** 70


def plus(cost, other):
    return tuple(x + y for x, y in zip(cost, other))


# Point 7: trees.

def above_all(tree, place):
    """Return everything in which a place lies, the place itself first, without the root."""
    return () if place == -1 else (place,) + above_all(tree, tree[place][1])


def content_inside(house, tree, place):
    """Return the content of the root or of the inside of a folder."""
    if place == -1:
        return house[1]
    item, above = tree[place]
    return after(house, content_inside(house, tree, above), (item,))


def content_of(house, tree, thing):
    return content_inside(house, tree, tree[thing][1])


def is_let(house, rules, tree, thing, target):
    if thing not in range(len(tree)) or target not in range(-1, len(tree)):
        return False
    if target != -1 and tree[target][0] == len(house[2]):
        return False
    if thing in above_all(tree, target):
        return False
    start, end = content_of(house, tree, thing), content_inside(house, tree, target)
    return any(item == tree[thing][0] and start in froms and end in to for item, froms, to in rules)


def moved(tree, thing, target):
    return tuple((item, target if k == thing else above) for k, (item, above) in enumerate(tree))


# Points 8 and 9: pairs and their least costs.

def least_costs(house, rules):
    """Return the least costs of the place pairs (a, b) and of the thing pairs (item, a, b)."""
    places, things = {(house[1], house[1]): (0, 0)}, {}
    changed = True
    while changed:
        changed = False
        for costs, key, cost in offers(house, rules, places, things):
            if key not in costs or cost < costs[key]:
                costs[key] = cost
                changed = True
    return places, things


def offers(house, rules, places, things):
    """Return (costs, key, cost) for what point 8 makes of what is there."""
    found = []
    for (a, b), cost in places.items():
        found += [(things, (item, a, b), cost) for item in range(len(house[2]) + 1)]
    for (item, a, b), cost in things.items():
        if item < len(house[2]):
            pair = (after(house, a, (item,)), after(house, b, (item,)))
            found.append((places, pair, plus(cost, (0, 1))))
        for mover, froms, to in rules:
            if mover == item and b in froms:
                for (d, e), more in places.items():
                    if d in to:
                        found.append((things, (item, a, e), plus(plus(cost, more), (1, 0))))
    return found


def table_of(house, rules):
    """Return the least table by points 9 and 10."""
    places, things = least_costs(house, rules)
    just_moved = {}
    for (item, a, z), cost in things.items():
        for mover, froms, to in rules:
            for d in to:
                if mover == item and z in froms and any(key[:2] == (item, d) for key in things):
                    asked = plus(cost, (1, 0))
                    just_moved[item, a, d] = min(asked, just_moved.get((item, a, d), asked))
    return tuple(tuple(sorted(key + part[key] for key in part)) for part in (places, just_moved, things))


# Point 10: closed tables.

def is_number(value):
    return value.__class__ is int and 0 <= value <= BIG


def has_form(house, value):
    """Tell whether any value is a table, closed or not."""
    known = contents(house)
    if value.__class__ is not tuple or len(value) != 3 or any(part.__class__ is not tuple for part in value):
        return False
    for part, longer in zip(value, (0, 1, 1)):
        for row in part:
            if row.__class__ is not tuple or len(row) != 4 + longer:
                return False
            if longer and not (row[0].__class__ is int and 0 <= row[0] <= len(house[2])):
                return False
            if any(not is_content(one, known) for one in row[longer:longer + 2]):
                return False
            if not all(map(is_number, row[longer + 2:])):
                return False
        keys = [row[:-2] for row in part]
        if any(keys[k] >= keys[k + 1] for k in range(len(keys) - 1)):
            return False
    return True


def is_content(value, known):
    return value.__class__ is tuple and all(x.__class__ is int for x in value) and value in known


def all_table_faults(house, rules, table, left=range(6)):
    """Return all faults of what has the form of a table, in the order of point 18, by the rules that are left."""
    places, just_moved, things = table
    costs = [{row[:-2]: row[-2:] for row in part} for part in table]
    firsts = {row[:2] for row in things}
    found = []

    def lacks(part, key, most):
        return key not in costs[part] or costs[part][key] > most

    if lacks(0, (house[1], house[1]), (0, 0)):
        found.append(("start",))
    for k, row in enumerate(places):
        for i in range(len(house[2]) + 1):
            if lacks(2, (i,) + row[:2], row[2:]):
                found.append(("thing", k, i))
    for k, (i, a, z, *cost) in enumerate(things):
        for r, (item, froms, to) in enumerate(rules):
            for c, d in enumerate(to):
                if r in left and item == i and z in froms and (i, d) in firsts:
                    if lacks(1, (i, a, d), plus(cost, (1, 0))):
                        found.append(("move", k, r, c))
    for k, (i, a, d, *cost) in enumerate(just_moved):
        for j, (item, start, e, *more) in enumerate(things):
            if (item, start) == (i, d) and lacks(2, (i, a, e), plus(cost, more)):
                found.append(("land", k, j))
    for k, (i, a, b, *cost) in enumerate(things):
        if i < len(house[2]):
            if lacks(0, (after(house, a, (i,)), after(house, b, (i,))), plus(cost, (0, 1))):
                found.append(("place", k))
    return found


# Point 11: courses.

def is_index(value, many):
    return value.__class__ is int and 0 <= value < many


def chain_of(house, rules, item, judged, value):
    """Return the pair and the cost of a chain of an item, by those of the rows before it, or None."""
    if value.__class__ is not tuple or len(value) % 2 != 1 or len(value) > 17:
        return None
    if not all(is_index(x, len(judged) if k % 2 == 0 else len(rules)) for k, x in enumerate(value)):
        return None
    for k in range(1, len(value), 2):
        mover, froms, to = rules[value[k]]
        if mover != item or judged[value[k - 1]][0][1] not in froms or judged[value[k + 1]][0][0] not in to:
            return None
    cost = (len(value) // 2, 0)
    for k in value[::2]:
        cost = plus(cost, judged[k][1])
    return (judged[value[0]][0][0], judged[value[-1]][0][1]), cost


def judged_course(house, rules, item, value):
    """Return the pair and the cost of any value, or None if it is no course of the item."""
    if value.__class__ is not tuple or len(value) != 2:
        return None
    ledger, chain = value
    if ledger.__class__ is not tuple or not 1 <= len(ledger) <= 100:
        return None
    judged = []
    for row in ledger:
        if row.__class__ is tuple and len(row) == 1 and row[0].__class__ is str and row[0] == "root":
            judged.append(((house[1], house[1]), (0, 0)))
            continue
        if row.__class__ is not tuple or len(row) != 2 or not is_index(row[0], len(house[2])):
            return None
        found = chain_of(house, rules, row[0], judged, row[1])
        if found is None:
            return None
        (a, b), cost = found
        judged.append(((after(house, a, (row[0],)), after(house, b, (row[0],))), plus(cost, (0, 1))))
    return chain_of(house, rules, item, judged, chain)


def used_in(course):
    """Return the rules that a course uses, row by row from the chain on."""
    ledger, chain = course

    def used(links):
        found = set(links[1::2])
        for k in set(links[::2]):
            if ledger[k] != ("root",):
                found |= used(ledger[k][1])
        return found

    return tuple(sorted(used(chain)))


# Point 12: unfolding.

def unfolded_fault(house, rules, item, course, answer):
    """Return what is wrong with an answer of unfold, or None."""
    tree, thing, moves = answer
    (a, b), cost = judged_course(house, rules, item, course)
    if (len(moves), len(tree) - 1) != cost:
        return "cost"
    if tree[thing][0] != item or content_of(house, tree, thing) != a:
        return "thing"
    for mover, target in moves:
        if not is_let(house, rules, tree, mover, target):
            return "move"
        tree = moved(tree, mover, target)
    return None if content_of(house, tree, thing) == b else "end"


# Point 13: forecasts.

def forecast_of(house, rules, tree, thing):
    """Return the forecast as a dict, by the words of point 13."""
    return levels_of(house, rules, least_costs(house, rules)[1], tree, thing)


def levels_of(house, rules, pairs, tree, thing):
    """Return the cost of each content that a thing has, by costs of (item, d, e)."""
    place = {house[1]: (0, 0)}
    for one in reversed(above_all(tree, thing)):
        item = tree[one][0]
        level = dict(place)
        changed = True
        while changed:
            changed = False
            for z, cost in list(level.items()):
                for mover, froms, to in rules:
                    for (i, d, e), more in pairs.items():
                        if mover == item == i and z in froms and d in to:
                            asked = plus(plus(cost, more), (1, 0))
                            if e not in level or asked < level[e]:
                                level[e] = asked
                                changed = True
        place = {}
        for content, cost in level.items():
            if item < len(house[2]):
                made = after(house, content, (item,))
                place[made] = min(cost, place.get(made, cost))
    return level


# Points 14 and 15: tasks and withdrawals.

def is_met(house, rules, task, withdrawal):
    """Tell whether a withdrawal is good, by the thing pairs of the rules that are left."""
    left = tuple(rule for index, rule in enumerate(rules) if index not in withdrawal)
    pairs = least_costs(house, left)[1]
    leaks, wishes, _ = task
    for item, starts, seen in leaks:
        if any((item, a, b) in pairs for a in starts for b in seen):
            return False
    return all(wish in pairs for wish in wishes)


def withdrawals_of(rules):
    """Return all withdrawals, as tuples ascend."""
    many = len(rules)
    return sorted(tuple(k for k in range(many) if number >> k & 1) for number in range(2 ** many))


def price_of(task, withdrawal):
    return sum(task[2][index] for index in withdrawal)
