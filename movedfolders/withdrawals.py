"""Withdrawals: which rules to withdraw, so that all leaks of a task are safe and all its wishes kept."""

from movedfolders.derivations import derive, thing_costs
from movedfolders.integers import is_index
from movedfolders.tasks import leading

# A rule that is withdrawn stands for nobody, so that the others keep their indices.
WITHDRAWN = (-1, (), ())


def is_good(house, rules, task, withdrawal):
    """Tell whether by the other rules alone all leaks of the task are safe and all wishes kept."""
    return is_met(task, thing_costs(derive(house, rules_left(rules, withdrawal))))


def least_price(house, rules, task):
    """Return the least price of a good withdrawal, or None if there is none."""
    found = cheapest(house, rules, task)
    return None if found is None else price_of(task, found)


def cheapest(house, rules, task):
    """Return a good withdrawal of the least price, or None if there is none."""
    for withdrawal in by_price(rules, task):
        if is_good(house, rules, task, withdrawal):
            return withdrawal
    return None


def is_met(task, pairs):
    """Tell whether by these pairs (item, a, b) all leaks of a task are safe and all wishes kept."""
    leaks, wishes, _ = task
    safe = [not leading(leak, pairs) for leak in leaks]
    kept = [wish in pairs for wish in wishes]
    return all(safe + kept)


def rules_left(rules, withdrawal):
    """Return the rules without those that are withdrawn, the others at their indices."""
    return tuple([WITHDRAWN if index in withdrawal else rule for index, rule in enumerate(rules)])


def all_but(rules, indices):
    """Return the ascending tuple of all indices of rules but these."""
    return tuple([index for index in range(len(rules)) if index not in indices])


def all_withdrawals(rules):
    """Return the ascending list of all withdrawals."""
    found = [()]
    for index in range(len(rules)):
        found = found + [withdrawal + (index,) for withdrawal in found]
    return sorted(found)


def by_price(rules, task):
    """Return the list of all withdrawals, those of the least price first."""
    priced = sorted([(price_of(task, withdrawal), withdrawal) for withdrawal in all_withdrawals(rules)])
    return [withdrawal for _, withdrawal in priced]


def price_of(task, withdrawal):
    """Return the sum of the prices of what is withdrawn."""
    return sum([task[2][index] for index in withdrawal])


def are_indices(rules, value):
    """Tell whether any value is a strictly ascending tuple of indices of rules."""
    if not isinstance(value, tuple) or not all([is_index(index, len(rules)) for index in value]):
        return False
    return all([low < high for low, high in zip(value, value[1:])])
