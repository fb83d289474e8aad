"""Houses, values and ways of asking that several tests use."""

SHUT = (("set", 0, 0),)
TEAM = (("raise", 0, 1),)
WIDE = (("when", 0, 1, 1, ("set", 0, 2)),)
HOUSE = ((3,), (0,), (SHUT, TEAM, WIDE))
RULES = ((2, ((0,),), ((1,),)),)

# Two cells of different sizes, so that a cell and a value are never the same by chance.
TWO = ((2, 4), (1, 3), ((("set", 1, 3),), ()))
THREE = ((2, 2, 2), (0, 0, 0), ((("copy", 2, 0),), (("raise", 0, 1),)))

NO_INTEGERS = (True, False, None, "0", "", (0,), [0], {0: 0}, (), 10 ** 79, -(10 ** 79), -1)


def nested(depth, made):
    """Return a value that is nested this deep, made around the one inside by made."""
    value = 0
    for _ in range(depth):
        value = made(value)
    return value


def strange_values():
    """Return values that are no house, no rules and no part of them."""
    return [
        None, True, False, 0, 1, -1, 10 ** 79, -(10 ** 79), "", "set", "house", [], {}, {"a": 1},
        [HOUSE], list(HOUSE), {0: HOUSE}, dict(enumerate(HOUSE)), "abc", ("set", 0), (None,) * 3,
        nested(40, lambda inner: (inner,)), nested(40, lambda inner: [inner]),
        nested(40, lambda inner: {"a": inner}), nested(40, lambda inner: (inner, [inner][:0], "a")),
        nested(20000, lambda inner: (inner,)), nested(20000, lambda inner: (inner, 1, 2)),
        nested(20000, lambda inner: ("when", 0, 0, 0, inner)),
        tuple(range(400000)), list(range(400000)), "x" * 400000, ((0,),) * 400000,
        dict.fromkeys(range(200000), 0), (tuple(range(130000)),) * 3,
    ]


def put(value, at, part):
    """Return a tuple with another part at one place."""
    return value[:at] + (part,) + value[at + 1:]
