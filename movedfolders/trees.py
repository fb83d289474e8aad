"""Trees: what lies where, which moves are let, and the tree behind moves."""

from movedfolders.errors import InvalidTree
from movedfolders.integers import is_index
from movedfolders.kinds import made_by
from movedfolders.rules import is_folder, is_item, letting_rule

MOST_THINGS = 200
ROOT = -1


def require_tree(house, value):
    """Return a value that is a tree of the house; raise InvalidTree for any other."""
    if not isinstance(value, tuple) or len(value) > MOST_THINGS:
        raise InvalidTree(None)
    for index, pair in enumerate(value):
        if not _is_thing(house, len(value), pair):
            raise InvalidTree(index)
    for index, (_, above) in enumerate(value):
        if above != ROOT and not is_folder(house, value[above][0]):
            raise InvalidTree(index)
    reached = set(_from_root_down(value))
    for index in range(len(value)):
        if index not in reached:
            raise InvalidTree(index)
    return value


def contents_of(house, tree):
    """Return the tuple of the contents of the things."""
    places = place_contents(house, tree)
    return tuple([places[above] for _, above in tree])


def let_moves(house, rules, tree):
    """Return the ascending tuple of all moves (thing, target) that are let."""
    places = place_contents(house, tree)
    paths = {place: path_of(tree, place) for place in places}
    return tuple([
        (thing, target)
        for thing, (item, above) in enumerate(tree)
        for target in sorted(places)
        if thing not in paths[target]
        if letting_rule(rules, item, places[above], places[target]) is not None
    ])


def played(house, rules, tree, moves):
    """Return the tree behind the moves, or None if one of them is none or is not let."""
    for thing, target in moves:
        if not _is_let(house, rules, tree, thing, target):
            return None
        tree = tree[:thing] + ((tree[thing][0], target),) + tree[thing + 1:]
    return tree


def place_contents(house, tree):
    """Return the content of each place: of the root, and of the inside of each folder."""
    places = {ROOT: house[1]}
    for thing in _from_root_down(tree):
        item, above = tree[thing]
        if is_folder(house, item):
            places[thing] = made_by(house, item, places[above])
    return places


def path_of(tree, place):
    """Return the path of a thing, from the root down, itself last; () for the root."""
    path = []
    while place != ROOT:
        path.append(place)
        place = tree[place][1]
    return tuple(path[::-1])


def path_items(tree, thing):
    """Return the tuple of the items of a thing's path, from the root down."""
    return tuple([tree[place][0] for place in path_of(tree, thing)])


def _is_thing(house, many, value):
    """Tell whether any value is a pair of an item and an above, in a tree of so many things."""
    if not isinstance(value, tuple) or len(value) != 2:
        return False
    item, above = value
    return is_item(house, item) and (above == ROOT or is_index(above, many))


def _from_root_down(tree):
    """Return all things whose path reaches the root, each one behind the folder it lies in."""
    within = {ROOT: []}
    for thing in range(len(tree)):
        within[thing] = []
    for thing, (_, above) in enumerate(tree):
        within[above].append(thing)
    found = list(within[ROOT])
    done = 0
    while done < len(found):
        found.extend(within[found[done]])
        done += 1
    return found


def _is_let(house, rules, tree, thing, target):
    """Tell whether any two integers are a move that is let."""
    places = place_contents(house, tree)
    if not is_index(thing, len(tree)) or target not in places or thing in path_of(tree, target):
        return False
    item, above = tree[thing]
    return letting_rule(rules, item, places[above], places[target]) is not None
