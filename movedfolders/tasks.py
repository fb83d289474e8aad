"""Tasks: what must not come about, what is wished, and what it costs to withdraw a rule."""

from movedfolders.derivations import derive, thing_costs
from movedfolders.errors import InvalidTask
from movedfolders.houses import are_contents, is_content
from movedfolders.integers import is_index
from movedfolders.rules import is_item

MOST_LEAKS = 3
MOST_WISHES = 3
MOST_PRICE = 99


def require_task(house, rules, value):
    """Return a value that is a task for the house and the rules; raise InvalidTask for any other."""
    if not _is_frame(value):
        raise InvalidTask(None)
    leaks, wishes, prices = value
    for j, leak in enumerate(leaks):
        if not is_leak(house, leak):
            raise InvalidTask(("leak", j))
    for j, wish in enumerate(wishes):
        if not is_wish(house, wish):
            raise InvalidTask(("wish", j))
    if not _are_prices(len(rules), prices):
        raise InvalidTask(("prices",))
    return value


def is_safe(house, rules, leak):
    """Tell whether nothing comes from one of the leak's starts to one of its seen."""
    return not leading(leak, thing_costs(derive(house, rules)))


def keeps(house, rules, wish):
    """Tell whether a wish is kept."""
    return wish in thing_costs(derive(house, rules))


def leading(leak, pairs):
    """Return the list of those (item, a, b) that lead from one of a leak's starts to one of its seen."""
    item, starts, seen = leak
    return [key for key in pairs if key[0] == item and key[1] in starts and key[2] in seen]


def is_leak(house, value):
    """Tell whether any value is a leak."""
    if not isinstance(value, tuple) or len(value) != 3:
        return False
    item, starts, seen = value
    return is_item(house, item) and are_contents(house[0], starts) and are_contents(house[0], seen)


def is_wish(house, value):
    """Tell whether any value is a wish."""
    if not isinstance(value, tuple) or len(value) != 3:
        return False
    item, a, b = value
    return is_item(house, item) and is_content(house[0], a) and is_content(house[0], b)


def _is_frame(value):
    if not isinstance(value, tuple) or len(value) != 3:
        return False
    leaks, wishes, _ = value
    if not isinstance(leaks, tuple) or not isinstance(wishes, tuple):
        return False
    return len(leaks) <= MOST_LEAKS and len(wishes) <= MOST_WISHES


def _are_prices(many, value):
    """Tell whether any value is a price for each of so many rules."""
    if not isinstance(value, tuple) or len(value) != many:
        return False
    return all([is_index(price, MOST_PRICE + 1) for price in value])
