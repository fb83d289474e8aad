"""Pairs: from which content to which one places and things can come, by moves that are let."""

from movedfolders.derivations import PLACE, THING, derive


def place_pairs(house, rules):
    """Return the ascending tuple of the place pairs."""
    return tuple(sorted([(key[1], key[2]) for key in derive(house, rules) if key[0] == PLACE]))


def thing_pairs(house, rules, item):
    """Return the ascending tuple of the thing pairs of an item."""
    return tuple(sorted([(key[2], key[3]) for key in derive(house, rules) if key[:2] == (THING, item)]))
