"""Answers to valid claims: a pair of a word, "shown" or "broken", and a paper that the checker accepts with it."""

from movedfolders.derivations import THING, derive, thing_costs
from movedfolders.ledgers import cheapest_chains, cheapest_course
from movedfolders.levels import path_levels, reached
from movedfolders.reasons import lacks_against, leaks_against
from movedfolders.tables import table_of
from movedfolders.tasks import leading
from movedfolders.trees import path_items
from movedfolders.ways import way_along
from movedfolders.withdrawals import all_withdrawals, by_price, is_met, price_of, rules_left


def answer_to(house, claim):
    """Return (word, paper) for a valid claim."""
    answer = _ANSWERS[claim[0]]
    return answer(house, claim)


def _answer_can(house, claim):
    """Answer ("can", rules, item, a, b)."""
    _, rules, item, a, b = claim
    found = derive(house, rules)
    key = (THING, item, a, b)
    if key in found:
        return ("shown", cheapest_course(found, key))
    return ("broken", table_of(found))


def _answer_least(house, claim):
    """Answer ("least", rules, item, a, b, n)."""
    _, rules, item, a, b, n = claim
    found = derive(house, rules)
    key = (THING, item, a, b)
    if key not in found or found[key][0][0] > n:
        return ("broken", ("more", table_of(found)))
    course = cheapest_course(found, key)
    if found[key][0][0] < n:
        return ("broken", ("less", course))
    return ("shown", (course, table_of(found)))


def _answer_safe(house, claim):
    """Answer ("safe", rules, leak)."""
    _, rules, leak = claim
    found = derive(house, rules)
    leaking = leading(leak, thing_costs(found))
    if leaking:
        return ("broken", cheapest_course(found, (THING,) + leaking[0]))
    return ("shown", table_of(found))


def _answer_pairs(house, claim):
    """Answer ("pairs", rules, item, pairs)."""
    _, rules, item, pairs = claim
    found = derive(house, rules)
    for index, pair in enumerate(pairs):
        if (THING, item) + pair not in found:
            return ("broken", ("wrong", index, table_of(found)))
    for key in found:
        if key[:2] == (THING, item) and key[2:] not in pairs:
            return ("broken", ("lacks", cheapest_course(found, key)))
    ledger, chains = cheapest_chains(found, [(THING, item) + pair for pair in pairs])
    return ("shown", (table_of(found), ledger, chains))


def _answer_comes(house, claim):
    """Answer ("comes", rules, tree, thing, content, n)."""
    _, rules, tree, thing, content, n = claim
    found = derive(house, rules)
    items = path_items(tree, thing)
    levels = path_levels(house, rules, thing_costs(found), items)
    reach = reached(levels)
    if content not in reach or reach[content][0] > n:
        return ("broken", ("more", table_of(found)))
    way = way_along(found, levels, items, content)
    if reach[content][0] < n:
        return ("broken", ("less", way))
    return ("shown", (way, table_of(found)))


def _answer_never(house, claim):
    """Answer ("never", rules, tree, thing, contents)."""
    _, rules, tree, thing, some = claim
    found = derive(house, rules)
    items = path_items(tree, thing)
    levels = path_levels(house, rules, thing_costs(found), items)
    reach = reached(levels)
    for content in some:
        if content in reach:
            return ("broken", way_along(found, levels, items, content))
    return ("shown", table_of(found))


def _answer_withdraw(house, claim):
    """Answer ("withdraw", rules, task, n)."""
    _, rules, task, n = claim
    derived = _derived_by_withdrawal(house, rules)
    best = _best(rules, task, derived)
    if best is None or price_of(task, best) > n:
        return ("broken", ("more",) + _reasons(rules, task, derived))
    fix = _fix(rules, task, best, derived[best])
    if price_of(task, best) < n:
        return ("broken", ("less",) + fix)
    return ("shown", fix + _reasons(rules, task, derived))


def _answer_lost(house, claim):
    """Answer ("lost", rules, task)."""
    _, rules, task = claim
    derived = _derived_by_withdrawal(house, rules)
    best = _best(rules, task, derived)
    if best is None:
        return ("shown", _reasons(rules, task, derived))
    return ("broken", _fix(rules, task, best, derived[best]))


def _derived_by_withdrawal(house, rules):
    """Return what is derived by the rules that each withdrawal leaves."""
    return {withdrawal: derive(house, rules_left(rules, withdrawal)) for withdrawal in all_withdrawals(rules)}


def _best(rules, task, derived):
    """Return a good withdrawal of the least price, or None."""
    for withdrawal in by_price(rules, task):
        if is_met(task, thing_costs(derived[withdrawal])):
            return withdrawal
    return None


def _fix(rules, task, withdrawal, found):
    """Return (withdrawal, tables, ledger, chains) for a good withdrawal and what is derived by the rules it leaves."""
    leaks, wishes, _ = task
    ledger, chains = cheapest_chains(found, [(THING,) + wish for wish in wishes])
    return (withdrawal, (table_of(found),) * len(leaks), ledger, chains)


def _reasons(rules, task, derived):
    return (leaks_against(rules, task, derived), lacks_against(rules, task, derived))


_ANSWERS = {
    "can": _answer_can, "least": _answer_least, "safe": _answer_safe, "pairs": _answer_pairs, "comes": _answer_comes,
    "never": _answer_never, "withdraw": _answer_withdraw, "lost": _answer_lost,
}
