"""Courses: how a thing of an item can come from one content to another one."""

from movedfolders.derivations import THING, derive
from movedfolders.ledgers import (
    ROOT_ROW, chain_cost, chain_fault, chain_pair, cheapest_course, is_chain, is_ledger, ledger_fault, row_costs,
    row_pairs, used_rows,
)


def is_course(house, rules, item, value):
    """Tell whether any value is a course of an item."""
    return is_course_form(house, rules, value) and course_fault(house, rules, item, value) is None


def course_pair(house, rules, item, course):
    """Return the pair of a course: from which content to which one it leads."""
    ledger, chain = course
    return chain_pair(row_pairs(house, ledger), chain)


def course_cost(house, rules, item, course):
    """Return the cost of a course, (moves, things)."""
    ledger, chain = course
    return chain_cost(row_costs(ledger), chain)


def used_rules(course):
    """Return the ascending tuple of the indices of the rules that a course uses."""
    ledger, chain = course
    chains = [ledger[k][1] for k in used_rows(ledger, chain) if ledger[k] != ROOT_ROW]
    return tuple(sorted(set([rule for links in [chain] + chains for rule in links[1::2]])))


def course_for(house, rules, item, a, b):
    """Return a course of least cost with this pair, or None if there is none."""
    found = derive(house, rules)
    key = (THING, item, a, b)
    return cheapest_course(found, key) if key in found else None


def is_course_form(house, rules, value):
    """Tell whether any value has the form of a course; it may still have faults."""
    if not isinstance(value, tuple) or len(value) != 2:
        return False
    ledger, chain = value
    return is_ledger(house, rules, ledger) and is_chain(rules, len(ledger), chain)


def course_fault(house, rules, item, course):
    """Return the first fault of a course of an item, or None; see point 18."""
    ledger, chain = course
    fault = ledger_fault(house, rules, ledger)
    if fault is not None:
        return fault
    fault = chain_fault(rules, item, row_pairs(house, ledger), chain)
    return None if fault is None else ("chain", fault)
