"""Forecasts: what a thing of a tree can come to have in some tree that extends it."""

from movedfolders.derivations import derive, thing_costs
from movedfolders.levels import path_levels, reached
from movedfolders.trees import path_items


def forecast(house, rules, tree, thing):
    """Return the ascending tuple of (content, moves, things)."""
    costs = thing_costs(derive(house, rules))
    return rows_of(reached(path_levels(house, rules, costs, path_items(tree, thing))))


def rows_of(reach):
    """Return the ascending tuple of (content, moves, things) by the cost of each content."""
    return tuple(sorted([(content,) + reach[content] for content in reach]))
