"""Ledgers and chains, the parts of courses: their form, their faults, their pairs and their costs."""

from movedfolders.derivations import MOVED, PLACE, THING, sum_of
from movedfolders.integers import is_index
from movedfolders.kinds import made_by

MOST_ROWS = 100
MOST_LINKS = 9
ROOT_ROW = ("root",)


def is_ledger(house, rules, value):
    """Tell whether any value has the form of a ledger; its chains may still have faults."""
    if not isinstance(value, tuple) or not 1 <= len(value) <= MOST_ROWS:
        return False
    return all([_is_row(house, rules, k, row) for k, row in enumerate(value)])


def is_chain(rules, many, value):
    """Tell whether any value has the form of a chain of the first so many rows of a ledger."""
    if not isinstance(value, tuple) or len(value) not in range(1, 2 * MOST_LINKS, 2):
        return False
    if not all([is_index(row, many) for row in value[::2]]):
        return False
    return all([is_index(rule, len(rules)) for rule in value[1::2]])


def ledger_fault(house, rules, ledger):
    """Return ("row", k, f) for the first row whose chain has a fault, or None; see point 18."""
    pairs = row_pairs(house, ledger)
    for k, row in enumerate(ledger):
        if row != ROOT_ROW:
            fault = chain_fault(rules, row[0], pairs, row[1])
            if fault is not None:
                return ("row", k, fault)
    return None


def chain_fault(rules, item, pairs, chain):
    """Return the first fault of a chain of an item, or None, by the pairs of the ledger's rows."""
    for j in range(len(chain) // 2):
        before, rule, behind = chain[2 * j:2 * j + 3]
        mover, starts, ends = rules[rule]
        if mover != item:
            return ("rule", j)
        if pairs[before][1] not in starts:
            return ("from", j)
        if pairs[behind][0] not in ends:
            return ("to", j)
    return None


def row_pairs(house, ledger):
    """Return the list of the pairs of a ledger's rows."""
    pairs = []
    for row in ledger:
        if row == ROOT_ROW:
            pairs.append((house[1], house[1]))
        else:
            kind, chain = row
            start, end = chain_pair(pairs, chain)
            pairs.append((made_by(house, kind, start), made_by(house, kind, end)))
    return pairs


def row_costs(ledger):
    """Return the list of the costs of a ledger's rows."""
    costs = []
    for row in ledger:
        if row == ROOT_ROW:
            costs.append((0, 0))
        else:
            costs.append(sum_of(chain_cost(costs, row[1]), (0, 1)))
    return costs


def chain_pair(pairs, chain):
    """Return the pair of a chain, by the pairs of the ledger's rows."""
    return (pairs[chain[0]][0], pairs[chain[-1]][1])


def chain_cost(costs, chain):
    """Return the cost of a chain, by the costs of the ledger's rows."""
    total = (len(chain) // 2, 0)
    for row in chain[::2]:
        total = sum_of(total, costs[row])
    return total


def cheapest_chains(found, keys):
    """Return a ledger, and a chain of it of least cost for the key of each thing pair, by what was derived."""
    links = [_links_of(found, key) for key in keys]
    needed = _needed_places(found, links)
    # What comes about stands behind what it comes about from, as the rows of a ledger must.
    places = [key for key in found if key in needed]
    numbers = {key: k for k, key in enumerate(places)}
    ledger = [_row_of(found, numbers, key) for key in places]
    # A ledger has a row even where no chain asks for one.
    return (tuple(ledger) or (ROOT_ROW,), tuple([_numbered(numbers, one) for one in links]))


def cheapest_course(found, key):
    """Return a course of least cost for the key of a thing pair, by what was derived."""
    ledger, chains = cheapest_chains(found, [key])
    return (ledger, chains[0])


def used_rows(ledger, chain):
    """Return the list of the indices of all rows that a chain uses, directly or through others, the last one first."""
    used = {row: True for row in chain[::2]}
    found = []
    # Rows use only rows before them, so from behind all that uses a row is known when its turn comes.
    for k in reversed(range(len(ledger))):
        if k in used:
            found.append(k)
            if ledger[k] != ROOT_ROW:
                used.update({row: True for row in ledger[k][1][::2]})
    return found


def _is_row(house, rules, k, value):
    """Tell whether any value has the form of the row of a ledger behind k others."""
    if value == ROOT_ROW:
        return True
    if not isinstance(value, tuple) or len(value) != 2:
        return False
    return is_index(value[0], len(house[2])) and is_chain(rules, k, value[1])


def _links_of(found, key):
    """Return a chain of least cost for the key of a thing pair, with keys of places in the place of rows."""
    _, item, a, b = key
    links = []
    source = found[key][1]
    while source != ():
        d = source[0]
        rule, z = found[(MOVED, item, a, d)][1]
        links = [rule, (PLACE, d, b)] + links
        b = z
        source = found[(THING, item, a, b)][1]
    return [(PLACE, a, b)] + links


def _needed_places(found, links):
    """Return a dict with the keys of all places that these chains use, directly or through others."""
    needed = {place: True for one in links for place in one[::2]}
    for key in reversed(list(found)):
        if key in needed and found[key][1] != ():
            for place in _links_of(found, (THING,) + found[key][1])[::2]:
                needed[place] = True
    return needed


def _row_of(found, numbers, key):
    """Return the row of a ledger for the key of a place pair, with the numbers of the rows."""
    source = found[key][1]
    if source == ():
        return ROOT_ROW
    return (source[0], _numbered(numbers, _links_of(found, (THING,) + source)))


def _numbered(numbers, links):
    """Return links with the numbers of rows in the place of keys."""
    return tuple([part if at % 2 == 1 else numbers[part] for at, part in enumerate(links)])
