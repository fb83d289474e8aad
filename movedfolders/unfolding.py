"""Unfolding: a tree and moves in it by which a thing comes where a course leads."""

from movedfolders.courses import course_cost
from movedfolders.errors import LimitExceeded
from movedfolders.ledgers import ROOT_ROW, used_rows
from movedfolders.trees import MOST_THINGS, ROOT

MOST_MOVES = 200


def unfold(house, rules, item, course):
    """Return (tree, thing, moves) for a course; raise LimitExceeded if there are more than 200 moves or things."""
    moves, things = course_cost(house, rules, item, course)
    # Asked ahead of all else: a course of a hundred rows can cost more than could ever be written down.
    if moves > MOST_MOVES or things + 1 > MOST_THINGS:
        raise LimitExceeded(MOST_THINGS)
    others, place, steps = spread(course)
    return (others + ((item, place),), len(others), steps)


def spread(course):
    """Return (others, place, moves): what a course puts in, where its thing begins, and what is moved.

    The others are things of a tree, each one behind the folder in which it lies. Among the moves the thing itself has
    the number that follows theirs.
    """
    ledger, chain = course
    parts = {}
    for k in sorted(used_rows(ledger, chain)):
        parts[k] = _spread_row(parts, ledger[k])
    return _spread_chain(parts, chain)


def shifted(place, start):
    """Return a place of a tree whose things get numbers from start on."""
    return ROOT if place == ROOT else place + start


def _spread_row(parts, row):
    """Return (things, place, moves) for a row of a ledger, its folder last, by those of the rows before it."""
    if row == ROOT_ROW:
        return ((), ROOT, ())
    kind, chain = row
    others, place, moves = _spread_chain(parts, chain)
    return (others + ((kind, place),), len(others), moves)


def _spread_chain(parts, chain):
    """Return (others, place, moves) for a chain; each of its rows gets things of its own."""
    own = sum([len(parts[k][0]) for k in chain[::2]])
    others, places, moves = [], [], []
    for k in chain[::2]:
        start = len(others)
        things, place, steps = parts[k]
        others.extend([(item, shifted(above, start)) for item, above in things])
        if places:
            moves.append((own, shifted(place, start)))
        places.append(shifted(place, start))
        moves.extend([(thing + start, shifted(target, start)) for thing, target in steps])
    return (tuple(others), places[0], tuple(moves))
