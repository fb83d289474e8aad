"""Houses, rules and trees that several tests go through, and values that are a little wrong."""

import itertools
import random

from movedfolders.houses import contents
from movedfolders.pairs import thing_pairs
from tests.support import HOUSE, RULES, TWO, put

# The document's house in which pairs do not join.
FIRST = (("when", 0, 5, 5, ("set", 0, 1)),)
SECOND = (("when", 0, 3, 3, ("set", 0, 1)), ("when", 0, 4, 4, ("set", 0, 2)))
TRAP = ((6,), (0,), (FIRST, SECOND, (("raise", 0, 3),), (("raise", 0, 4),), (("raise", 0, 5),)))
TRAP_RULES = ((0, ((0,),), ((5,),)), (1, ((3,),), ((4,),)), (5, ((1,),), ((1,),)))

# Each content comes about behind the one ahead of it alone; begin is not the least content.
STAIRS = ((5,), (1,), tuple((("when", 0, v, v, ("set", 0, v + 1)),) for v in (3, 1, 0, 2)) + ((("set", 0, 0),),))
STAIRS_RULES = (
    (0, ((0,), (3,)), ((2,), (4,))), (4, ((1,),), ((2,),)), (4, ((2,),), ((3,),)), (4, ((3,),), ((0,), (1,))),
    (5, ((4,),), ((0,),)), (5, ((0,),), ((1,), (4,))),
)

# All eight contents come about, and every item goes from everywhere to everywhere.
CUBE = ((2, 2, 2), (0, 0, 0), (
    (("raise", 0, 1),),
    (("when", 0, 0, 1, ("raise", 1, 1)),),
    (("when", 2, 0, 0, ("set", 2, 1)),),
    (("copy", 1, 0), ("when", 2, 1, 1, ("set", 1, 0))),
    (("when", 1, 1, 1, ("lower", 0, 0)), ("copy", 2, 1)),
))
CUBE_RULES = tuple((item, contents(CUBE), contents(CUBE)) for item in range(6))

# A leaf goes by rules that need each other: none of them is of use alone.
ONE_BY_ONE = ((8,), (0,), tuple((("set", 0, v),) for v in (1, 2, 4, 6, 7)))
ONE_BY_ONE_RULES = (
    (5, ((0,),), ((1,),)), (5, ((1,),), ((2,),)), (5, ((2,),), ((4,),)), (5, ((4,),), ((6,),)), (5, ((6,),), ((7,),)),
)

TWO_RULES = ((2, ((0, 1), (1, 3)), ((1, 0),)), (0, ((1, 3),), ((1, 3),)), (2, ((1, 3),), ((0, 0), (1, 3))))

SAMPLES = (
    (HOUSE, RULES), (HOUSE, ()), (TRAP, TRAP_RULES), (STAIRS, STAIRS_RULES), (TWO, TWO_RULES),
    (ONE_BY_ONE, ONE_BY_ONE_RULES),
)


def random_step(rng, sizes):
    cell = rng.randrange(len(sizes))
    word = rng.choice(("set", "raise", "lower", "copy", "when", "when", "when"))
    if word == "copy" and len(sizes) > 1:
        return ("copy", cell, rng.choice([d for d in range(len(sizes)) if d != cell]))
    if word == "when":
        low = rng.randrange(sizes[cell])
        step = random_step(rng, sizes)
        while step[0] == "when":
            step = random_step(rng, sizes)
        return ("when", cell, low, rng.randrange(low, sizes[cell]), step)
    return (word if word != "copy" else "set", cell, rng.randrange(sizes[cell]))


def random_house(rng):
    sizes = rng.choice(((2,), (3,), (4,), (6,), (8,), (2, 2), (2, 3), (4, 2), (2, 2, 2)))
    kinds = [[random_step(rng, sizes) for _ in range(rng.choice((0, 1, 1, 1, 2, 2, 3, 6)))] for _ in range(5)]
    begin = tuple(rng.randrange(size) for size in sizes)
    return (sizes, begin, tuple(map(tuple, kinds[:rng.randrange(1, 6)])))


def random_rules(rng, house):
    known = contents(house)

    def some():
        return tuple(sorted(rng.sample(known, rng.choice((1, 1, 2, len(known))))))

    return tuple((rng.randrange(len(house[2]) + 1), some(), some()) for _ in range(rng.randrange(7)))


def random_samples(many):
    """Return so many pairs of a house and rules, the same ones in each run."""
    rng = random.Random(2026)
    houses = [random_house(rng) for _ in range(many)]
    return [(house, random_rules(rng, house)) for house in houses]


def random_tree(rng, house, many):
    """Return a tree of so many things, numbered anyhow."""
    tree, folders = [], [-1]
    for k in range(many):
        tree.append((rng.randrange(len(house[2]) + 1), rng.choice(folders[-rng.randrange(1, 9):])))
        if tree[k][0] < len(house[2]):
            folders.append(k)
    order = list(range(many))
    rng.shuffle(order)
    return renumbered(tree, order)


def renumbered(tree, order):
    """Return the same tree, the thing k having the number order[k]."""
    found = [None] * len(tree)
    for k, (item, above) in enumerate(tree):
        found[order[k]] = (item, above if above == -1 else order[above])
    return tuple(found)


def random_task(rng, house, rules):
    """Return a task of at most three leaks and three wishes, most of them about pairs that come about by moves."""
    known, items = contents(house), range(len(house[2]) + 1)
    pairs = [(item,) + pair for item in items for pair in thing_pairs(house, rules, item) if pair[0] != pair[1]]

    def one():
        if pairs and rng.random() < 0.9:
            return rng.choice(pairs)
        return (rng.choice(items), rng.choice(known), rng.choice(known))

    def some(content):
        return tuple(sorted({content} | set(rng.sample(known, rng.choice((0, 0, 1))))))

    leaks = tuple((item, some(a), some(b)) for item, a, b in [one() for _ in range(rng.randrange(4))])
    wishes = tuple(one() for _ in range(rng.choice((0, 0, 1, 1, 2, 3))))
    return (leaks, wishes, tuple(rng.choice((0, 1, 1, 2, 7, 99)) for _ in rules))


def places_in(value, at=()):
    """Return the way to each part of a value, by indices."""
    found = [at]
    if isinstance(value, tuple):
        for k, part in enumerate(value):
            found += places_in(part, at + (k,))
    return found


def exchanged(value, at, change):
    """Return a value with the part at the end of a way changed."""
    if not at:
        return change(value)
    return put(value, at[0], exchanged(value[at[0]], at[1:], change))


def part_at(value, at):
    for k in at:
        value = value[k]
    return value


def changes(part, others):
    """Return what may stand in the place of a part of a right value."""
    found = [lambda _, other=other: other for other in others]
    found += [lambda _, other=other: other for other in (None, True, False, -1, 10 ** 70, 10 ** 70 + 1, "root", (), [])]
    if isinstance(part, int):
        found += [lambda n: n + 1, lambda n: n - 1, lambda n: n + 10 ** 60, lambda n: 0, lambda n: bool(n), str]
    if isinstance(part, tuple):
        found += [list, lambda one: one[::-1], lambda one: one + one, lambda one: one + one[-1:], lambda one: (one,)]
        found += [lambda one, k=k: one[:k] + one[k + 1:] for k in range(len(part))]
        found += [lambda one, k=k: one[:k] + one[k:k + 1] + one[k:] for k in range(len(part))]
        found += [lambda one, k=k: one[:k] + one[k + 1:k + 2] + one[k:k + 1] + one[k + 2:] for k in range(len(part))]
    return found


def disturbed(rng, value, times=1):
    """Return a value with parts exchanged, left out, turned round, put in, or made greater or less."""
    for _ in range(times):
        ways = places_in(value)
        at = rng.choice(ways)
        others = [part_at(value, rng.choice(ways)) for _ in range(2)]
        value = exchanged(value, at, rng.choice(changes(part_at(value, at), others)))
    return value


def nudged(rng, value, many=3):
    """Return a value with a number somewhere in it made a little greater or less, or one part left out."""
    ways = places_in(value)
    numbers = [way for way in ways if part_at(value, way).__class__ is int]
    longer = [way for way in ways if isinstance(part_at(value, way), tuple) and part_at(value, way)]
    if numbers and (rng.random() < 0.7 or not longer):
        return exchanged(value, rng.choice(numbers), lambda n: rng.choice((n + 1, max(n - 1, 0), rng.randrange(many))))
    if not longer:
        return value
    at = rng.choice(longer)
    k = rng.randrange(len(part_at(value, at)))
    return exchanged(value, at, lambda some: some[:k] + some[k + 1:])


def all_subsets(values):
    return [some for many in range(len(values) + 1) for some in itertools.combinations(values, many)]
