"""Papers: the form of what stands in a certificate beside the word and the claim.

Whatever has its form may still have faults.
"""

from movedfolders.courses import is_course_form
from movedfolders.integers import is_index
from movedfolders.ledgers import is_chain, is_ledger
from movedfolders.reasons import MOST_REASONS
from movedfolders.tables import is_table
from movedfolders.trees import path_items
from movedfolders.ways import is_way
from movedfolders.withdrawals import are_indices


def is_paper(house, word, claim, paper):
    """Tell whether any values are a word and a paper of the form that goes with it and with a valid claim."""
    if not isinstance(word, str) or word not in ("shown", "broken"):
        return False
    test = _TESTS[(claim[0], word)]
    return test(house, claim, paper)


def _is_parts(value, many):
    return isinstance(value, tuple) and len(value) == many


def _is_headed(value, head, many):
    """Tell whether any value is a tuple of so many parts, the first one being this word."""
    return _is_parts(value, many) and value[0] == head


def _is_course(house, claim, value):
    return is_course_form(house, claim[1], value)


def _is_table(house, claim, value):
    return is_table(house, value)


def _is_least_shown(house, claim, value):
    return _is_parts(value, 2) and _is_course(house, claim, value[0]) and is_table(house, value[1])


def _is_least_broken(house, claim, value):
    if _is_headed(value, "less", 2):
        return _is_course(house, claim, value[1])
    return _is_headed(value, "more", 2) and is_table(house, value[1])


def _is_pairs_shown(house, claim, value):
    if not _is_parts(value, 3):
        return False
    table, ledger, chains = value
    return is_table(house, table) and _are_chains(house, claim[1], len(claim[3]), ledger, chains)


def _is_pairs_broken(house, claim, value):
    if _is_headed(value, "lacks", 2):
        return _is_course(house, claim, value[1])
    return _is_headed(value, "wrong", 3) and is_index(value[1], len(claim[3])) and is_table(house, value[2])


def _is_way(house, claim, value):
    return is_way(house, claim[1], path_items(claim[2], claim[3]), value)


def _is_comes_shown(house, claim, value):
    return _is_parts(value, 2) and _is_way(house, claim, value[0]) and is_table(house, value[1])


def _is_comes_broken(house, claim, value):
    if _is_headed(value, "less", 2):
        return _is_way(house, claim, value[1])
    return _is_headed(value, "more", 2) and is_table(house, value[1])


def _is_withdraw_shown(house, claim, value):
    return _is_parts(value, 6) and _is_fix(house, claim, value[:4]) and _are_reasons(house, claim, value[4:])


def _is_withdraw_broken(house, claim, value):
    if _is_headed(value, "less", 5):
        return _is_fix(house, claim, value[1:])
    return _is_headed(value, "more", 3) and _are_reasons(house, claim, value[1:])


def _is_fix(house, claim, value):
    """Tell whether any value has the form of a good withdrawal with its tables, its ledger and its chains."""
    if not _is_parts(value, 4):
        return False
    withdrawal, tables, ledger, chains = value
    leaks, wishes, _ = claim[2]
    if not are_indices(claim[1], withdrawal) or not _is_parts(tables, len(leaks)):
        return False
    if not all([is_table(house, table) for table in tables]):
        return False
    return _are_chains(house, claim[1], len(wishes), ledger, chains)


def _are_chains(house, rules, many, ledger, chains):
    """Tell whether any values have the form of a ledger and of so many chains of it."""
    if not is_ledger(house, rules, ledger) or not _is_parts(chains, many):
        return False
    return all([is_chain(rules, len(ledger), chain) for chain in chains])


def _are_reasons(house, claim, value):
    """Tell whether any value has the form of reasons, (leaks, lacks)."""
    if not _is_parts(value, 2):
        return False
    leaks, lacks = value
    if not isinstance(leaks, tuple) or not isinstance(lacks, tuple):
        return False
    if len(leaks) > MOST_REASONS or len(lacks) > MOST_REASONS:
        return False
    right = [_is_leak_reason(house, claim, reason) for reason in leaks]
    return all(right + [_is_lack_reason(house, claim, reason) for reason in lacks])


def _is_leak_reason(house, claim, value):
    if not _is_parts(value, 2):
        return False
    return is_index(value[0], len(claim[2][0])) and _is_course(house, claim, value[1])


def _is_lack_reason(house, claim, value):
    if not _is_parts(value, 3):
        return False
    return is_index(value[0], len(claim[2][1])) and are_indices(claim[1], value[1]) and is_table(house, value[2])


_TESTS = {
    ("can", "shown"): _is_course, ("can", "broken"): _is_table,
    ("least", "shown"): _is_least_shown, ("least", "broken"): _is_least_broken,
    ("safe", "shown"): _is_table, ("safe", "broken"): _is_course,
    ("pairs", "shown"): _is_pairs_shown, ("pairs", "broken"): _is_pairs_broken,
    ("comes", "shown"): _is_comes_shown, ("comes", "broken"): _is_comes_broken,
    ("never", "shown"): _is_table, ("never", "broken"): _is_way,
    ("withdraw", "shown"): _is_withdraw_shown, ("withdraw", "broken"): _is_withdraw_broken,
    ("lost", "shown"): _are_reasons, ("lost", "broken"): _is_fix,
}
