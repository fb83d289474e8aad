"""Reasons against withdrawals: what leaks by the rules that are left, and what is lacking by them."""

from movedfolders.courses import used_rules
from movedfolders.derivations import THING, thing_costs
from movedfolders.ledgers import cheapest_course
from movedfolders.tables import table_of
from movedfolders.tasks import leading
from movedfolders.withdrawals import all_but

MOST_REASONS = 20


def first_open(rules, withdrawals, leaks, lacks):
    """Return the first one of some withdrawals that no reason excludes, or None."""
    uses = [used_rules(course) for _, course in leaks]
    kept = [indices for _, indices, _ in lacks]
    for withdrawal in withdrawals:
        if not _is_excluded(rules, withdrawal, uses, kept):
            return withdrawal
    return None


def leaks_against(rules, task, derived):
    """Return a reason for each least set of rules by which something leaks.

    What was derived is told for each withdrawal. Among six rules there are at most twenty sets of which none is a part
    of another one, and whatever leaks by some rules leaks by more of them: so these reasons exclude all that leaks.
    """
    least, reasons = [], []
    for withdrawal in sorted(derived, key=len, reverse=True):
        left = all_but(rules, withdrawal)
        found = derived[withdrawal]
        leak = _first_leak(task, thing_costs(found))
        if leak is not None and not any([_is_part(some, left) for some in least]):
            least.append(left)
            reasons.append((leak[0], cheapest_course(found, (THING,) + leak[1])))
    return tuple(reasons)


def lacks_against(rules, task, derived):
    """Return a reason for each greatest set of rules by which some wish is not kept; see leaks_against."""
    greatest, reasons = [], []
    for withdrawal in sorted(derived, key=len):
        left = all_but(rules, withdrawal)
        found = derived[withdrawal]
        wish = _first_lack(task, thing_costs(found))
        if wish is not None and not any([_is_part(left, some) for some in greatest]):
            greatest.append(left)
            reasons.append((wish, left, table_of(found)))
    return tuple(reasons)


def _is_excluded(rules, withdrawal, uses, kept):
    """Tell whether a withdrawal takes none of the rules that some leak uses, or leaves only what some wish lacks by."""
    for used in uses:
        if _is_part(used, all_but(rules, withdrawal)):
            return True
    return any([_is_part(all_but(rules, withdrawal), indices) for indices in kept])


def _is_part(some, more):
    """Tell whether all of some indices are among others."""
    return all([index in more for index in some])


def _first_leak(task, pairs):
    """Return (index, (item, a, b)) for the first leak of a task that is not safe, or None."""
    for index, leak in enumerate(task[0]):
        for key in leading(leak, pairs):
            return (index, key)
    return None


def _first_lack(task, pairs):
    """Return the index of the first wish of a task that is not kept, or None."""
    for index, wish in enumerate(task[1]):
        if wish not in pairs:
            return index
    return None
