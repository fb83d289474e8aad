"""Claims about a house: which ones are valid, and whether they are true."""

from movedfolders.answers import answer_to
from movedfolders.errors import InvalidClaim, InvalidRules, InvalidTask, InvalidTree
from movedfolders.houses import are_contents, is_content
from movedfolders.integers import is_index, is_number
from movedfolders.rules import is_item, require_rules
from movedfolders.tasks import is_leak, require_task
from movedfolders.trees import require_tree

# The word of each claim, and how many parts it has with it.
MANY_PARTS = {"can": 5, "least": 6, "safe": 3, "pairs": 4, "comes": 6, "never": 5, "withdraw": 4, "lost": 3}
# No withdrawal of six rules costs more.
MOST_PAID = 594


def require_claim(house, claim):
    """Return None for a claim that is valid for the house; raise InvalidClaim for any other value."""
    try:
        right = _has_parts(house, claim)
    except (InvalidRules, InvalidTree, InvalidTask):
        raise InvalidClaim() from None
    if not right:
        raise InvalidClaim()


def decide(house, claim):
    """Return a certificate (word, claim, paper), the word being "shown" or "broken"; raise InvalidClaim."""
    require_claim(house, claim)
    word, paper = answer_to(house, claim)
    return (word, claim, paper)


def _has_parts(house, claim):
    """Tell whether any value is a valid claim; raise what is raised for wrong rules, a wrong tree or a wrong task."""
    if not isinstance(claim, tuple) or len(claim) < 2 or not isinstance(claim[0], str):
        return False
    if MANY_PARTS.get(claim[0]) != len(claim):
        return False
    require_rules(house, claim[1])
    test = _TESTS[claim[0]]
    return test(house, claim)


def _is_can(house, claim):
    _, _, item, a, b = claim
    return is_item(house, item) and is_content(house[0], a) and is_content(house[0], b)


def _is_least(house, claim):
    return _is_can(house, claim[:5]) and is_number(claim[5])


def _is_safe(house, claim):
    return is_leak(house, claim[2])


def _is_pairs(house, claim):
    _, _, item, pairs = claim
    if not is_item(house, item) or not isinstance(pairs, tuple):
        return False
    if not all([_is_pair(house, pair) for pair in pairs]):
        return False
    return all([low < high for low, high in zip(pairs, pairs[1:])])


def _is_pair(house, value):
    if not isinstance(value, tuple) or len(value) != 2:
        return False
    return is_content(house[0], value[0]) and is_content(house[0], value[1])


def _is_comes(house, claim):
    _, _, tree, thing, content, n = claim
    require_tree(house, tree)
    return is_index(thing, len(tree)) and is_content(house[0], content) and is_number(n)


def _is_never(house, claim):
    _, _, tree, thing, some = claim
    require_tree(house, tree)
    return is_index(thing, len(tree)) and are_contents(house[0], some)


def _is_withdraw(house, claim):
    _, rules, task, n = claim
    require_task(house, rules, task)
    return is_index(n, MOST_PAID + 1)


def _is_lost(house, claim):
    _, rules, task = claim
    require_task(house, rules, task)
    return True


_TESTS = {
    "can": _is_can, "least": _is_least, "safe": _is_safe, "pairs": _is_pairs, "comes": _is_comes, "never": _is_never,
    "withdraw": _is_withdraw, "lost": _is_lost,
}
