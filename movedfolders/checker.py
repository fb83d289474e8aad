"""The checker: whether a certificate shows what it says, found out without search."""

from movedfolders.claims import require_claim
from movedfolders.courses import course_cost, course_fault, course_pair
from movedfolders.errors import InvalidClaim
from movedfolders.faults import (
    course_to_fault, fix_fault, lacking_fault, leak_course_fault, linked_fault, reasons_fault, safe_fault, table_reach,
    told, way_to_fault, within,
)
from movedfolders.papers import is_paper
from movedfolders.tables import costs_of, table_fault
from movedfolders.trees import path_items
from movedfolders.ways import way_moves
from movedfolders.withdrawals import all_withdrawals, price_of


def first_fault(house, certificate):
    """Return None for a right certificate, else its first fault; see point 18. The certificate is any value."""
    if not isinstance(certificate, tuple) or len(certificate) != 3:
        return ("form",)
    word, claim, paper = certificate
    try:
        require_claim(house, claim)
    except InvalidClaim:
        return ("claim",)
    if not is_paper(house, word, claim, paper):
        return ("paper",)
    judge = _JUDGES[(claim[0], word)]
    return judge(house, claim, paper)


def _can_shown(house, claim, course):
    _, rules, item, a, b = claim
    return course_to_fault(house, rules, item, course, (a, b))


def _can_broken(house, claim, table):
    _, rules, item, a, b = claim
    return lacking_fault(house, rules, table, (item, a, b))


def _least_shown(house, claim, paper):
    course, table = paper
    n = claim[5]
    fault = _least_course_fault(house, claim, course, n, n)
    return within(fault, "course") or within(_least_table_fault(house, claim, table, n), "table")


def _least_broken(house, claim, paper):
    word, part = paper
    n = claim[5]
    if word == "less":
        return within(_least_course_fault(house, claim, part, 0, n - 1), "course")
    return within(_least_table_fault(house, claim, part, n + 1), "table")


def _least_course_fault(house, claim, course, low, high):
    """Return the first fault of a course that must have from low to high moves, or None."""
    _, rules, item, a, b, _ = claim
    fault = course_to_fault(house, rules, item, course, (a, b))
    return fault or told(not low <= course_cost(house, rules, item, course)[0] <= high, "moves")


def _least_table_fault(house, claim, table, n):
    """Return the first fault of a table whose row, if there is one, must have at least n moves, or None."""
    _, rules, item, a, b, _ = claim
    return table_fault(house, rules, table) or told(_is_less(costs_of(table[2]), (item, a, b), n), "less")


def _is_less(costs, key, n):
    return key in costs and costs[key][0] < n


def _safe_shown(house, claim, table):
    return safe_fault(house, claim[1], table, claim[2])


def _safe_broken(house, claim, course):
    return leak_course_fault(house, claim[1], claim[2], course)


def _pairs_shown(house, claim, paper):
    _, rules, item, pairs = claim
    table, ledger, chains = paper
    keys = [(item,) + pair for pair in pairs]
    rows = [key for key in costs_of(table[2]) if key[0] == item]
    fault = within(table_fault(house, rules, table), "table") or told(rows != keys, "pairs")
    return fault or linked_fault(house, rules, ledger, keys, chains)


def _pairs_broken(house, claim, paper):
    _, rules, item, pairs = claim
    if paper[0] == "lacks":
        course = paper[1]
        fault = within(course_fault(house, rules, item, course), "course")
        return fault or told(course_pair(house, rules, item, course) in pairs, "among")
    _, index, table = paper
    return within(lacking_fault(house, rules, table, (item,) + pairs[index]), "table")


def _comes_shown(house, claim, paper):
    way, table = paper
    n = claim[5]
    fault = _comes_way_fault(house, claim, way, n, n)
    return within(fault, "way") or within(_comes_table_fault(house, claim, table, n), "table")


def _comes_broken(house, claim, paper):
    word, part = paper
    n = claim[5]
    if word == "less":
        return within(_comes_way_fault(house, claim, part, 0, n - 1), "way")
    return within(_comes_table_fault(house, claim, part, n + 1), "table")


def _comes_way_fault(house, claim, way, low, high):
    """Return the first fault of a way that must have from low to high moves, or None."""
    _, rules, tree, thing, content, _ = claim
    items = path_items(tree, thing)
    fault = way_to_fault(house, rules, items, way, [content])
    return fault or told(not low <= way_moves(house, rules, items, way) <= high, "moves")


def _comes_table_fault(house, claim, table, n):
    """Return the first fault of a table whose levels must not have a content by less than n moves, or None."""
    _, rules, tree, thing, content, _ = claim
    fault = table_fault(house, rules, table)
    if fault is not None:
        return fault
    return told(_is_less(table_reach(house, rules, path_items(tree, thing), table), content, n), "less")


def _never_shown(house, claim, table):
    _, rules, tree, thing, some = claim
    fault = table_fault(house, rules, table)
    if fault is not None:
        return fault
    reach = table_reach(house, rules, path_items(tree, thing), table)
    return told(any([content in reach for content in some]), "content")


def _never_broken(house, claim, way):
    _, rules, tree, thing, some = claim
    return way_to_fault(house, rules, path_items(tree, thing), way, some)


def _withdraw_shown(house, claim, paper):
    _, rules, task, n = claim
    fault = told(price_of(task, paper[0]) != n, "price") or fix_fault(house, rules, task, paper[:4])
    return fault or reasons_fault(house, rules, task, _cheaper(rules, task, n), paper[4], paper[5])


def _withdraw_broken(house, claim, paper):
    _, rules, task, n = claim
    if paper[0] == "less":
        return told(price_of(task, paper[1]) >= n, "price") or fix_fault(house, rules, task, paper[1:])
    return reasons_fault(house, rules, task, _cheaper(rules, task, n + 1), paper[1], paper[2])


def _cheaper(rules, task, n):
    """Return the ascending list of all withdrawals with a price below n."""
    return [withdrawal for withdrawal in all_withdrawals(rules) if price_of(task, withdrawal) < n]


def _lost_shown(house, claim, paper):
    _, rules, task = claim
    return reasons_fault(house, rules, task, all_withdrawals(rules), paper[0], paper[1])


def _lost_broken(house, claim, paper):
    return fix_fault(house, claim[1], claim[2], paper)


_JUDGES = {
    ("can", "shown"): _can_shown, ("can", "broken"): _can_broken,
    ("least", "shown"): _least_shown, ("least", "broken"): _least_broken,
    ("safe", "shown"): _safe_shown, ("safe", "broken"): _safe_broken,
    ("pairs", "shown"): _pairs_shown, ("pairs", "broken"): _pairs_broken,
    ("comes", "shown"): _comes_shown, ("comes", "broken"): _comes_broken,
    ("never", "shown"): _never_shown, ("never", "broken"): _never_broken,
    ("withdraw", "shown"): _withdraw_shown, ("withdraw", "broken"): _withdraw_broken,
    ("lost", "shown"): _lost_shown, ("lost", "broken"): _lost_broken,
}
