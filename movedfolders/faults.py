"""The faults of the parts of papers, beyond those of courses, tables and ways themselves; see point 18."""

from movedfolders.courses import course_fault, course_pair
from movedfolders.ledgers import chain_fault, chain_pair, ledger_fault, row_pairs
from movedfolders.levels import path_levels, reached
from movedfolders.reasons import first_open
from movedfolders.tables import costs_of, table_fault
from movedfolders.tasks import leading
from movedfolders.ways import way_end, way_fault
from movedfolders.withdrawals import all_but, rules_left


def told(fails, *fault):
    """Return a fault if something fails, else None."""
    return fault if fails else None


def within(fault, *part):
    """Return an inner fault as one of a part, or None."""
    return None if fault is None else part + (fault,)


def first_of(faults):
    """Return the first of some faults that is not None, or None."""
    for fault in faults:
        if fault is not None:
            return fault
    return None


def course_to_fault(house, rules, item, course, pair):
    """Return the first fault of a course that must have this pair, or None."""
    fault = course_fault(house, rules, item, course)
    return fault or told(course_pair(house, rules, item, course) != pair, "pair")


def leak_course_fault(house, rules, leak, course):
    """Return the first fault of a course that must lead from one of a leak's starts to one of its seen, or None."""
    fault = course_fault(house, rules, leak[0], course)
    key = (leak[0],) + course_pair(house, rules, leak[0], course)
    return fault or told(leading(leak, [key]) == [], "pair")


def lacking_fault(house, rules, table, key):
    """Return the first fault of a table that must not have the row of (item, a, b) in things, or None."""
    return table_fault(house, rules, table) or told(key in costs_of(table[2]), "pair")


def safe_fault(house, rules, table, leak):
    """Return the first fault of a table that must not have rows by which something leaks, or None."""
    return table_fault(house, rules, table) or told(leading(leak, costs_of(table[2])) != [], "pair")


def chains_fault(rules, pairs, keys, chains):
    """Return the first fault of chains that must have the pairs of these (item, a, b), one for each, or None."""
    for j, (key, chain) in enumerate(zip(keys, chains)):
        fault = chain_fault(rules, key[0], pairs, chain) or told(chain_pair(pairs, chain) != key[1:], "pair")
        if fault is not None:
            return ("chain", j, fault)
    return None


def linked_fault(house, rules, ledger, keys, chains):
    """Return the first fault of a ledger and then of its chains for these (item, a, b), or None."""
    fault = within(ledger_fault(house, rules, ledger), "ledger")
    return fault or chains_fault(rules, row_pairs(house, ledger), keys, chains)


def way_to_fault(house, rules, items, way, some):
    """Return the first fault of a way that must lead to one of some contents, or None."""
    fault = way_fault(house, rules, items, way)
    return fault or told(way_end(house, rules, items, way) not in some, "content")


def table_reach(house, rules, items, table):
    """Return the cost of each content that the levels of a closed table have for the last thing of a path."""
    return reached(path_levels(house, rules, costs_of(table[2]), items))


def fix_fault(house, rules, task, fix):
    """Return the first fault of (withdrawal, tables, ledger, chains), the price aside, or None."""
    withdrawal, tables, ledger, chains = fix
    left = rules_left(rules, withdrawal)
    leaks, wishes, _ = task
    faults = [
        within(safe_fault(house, left, table, leak), "table", j) for j, (table, leak) in enumerate(zip(tables, leaks))
    ]
    return first_of(faults) or linked_fault(house, left, ledger, wishes, chains)


def reasons_fault(house, rules, task, withdrawals, leaks, lacks):
    """Return the first fault of reasons that must exclude some withdrawals, told as they ascend, or None."""
    faults = [
        within(leak_course_fault(house, rules, task[0][index], course), "leak", j)
        for j, (index, course) in enumerate(leaks)
    ]
    for j, (index, kept, table) in enumerate(lacks):
        left = rules_left(rules, all_but(rules, kept))
        faults.append(within(lacking_fault(house, left, table, task[1][index]), "lack", j))
    left_open = first_open(rules, withdrawals, leaks, lacks)
    return first_of(faults) or told(left_open is not None, "open", left_open)
