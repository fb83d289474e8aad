"""Points 2 and 14, and the interface, movedfolders/tasks.py."""

import copy
import itertools
import random
import unittest

from movedfolders.errors import InvalidTask
from movedfolders.houses import contents
from movedfolders.pairs import thing_pairs
from movedfolders.tasks import is_safe, keeps, require_task
from tests.samples import SAMPLES, changes, disturbed, exchanged, part_at, places_in, random_samples, random_task
from tests.support import HOUSE, NO_INTEGERS, RULES, TWO, put, strange_values

LEAK = (3, ((0,),), ((2,),))
WISH = (2, (0,), (1,))
TASK = ((LEAK,), (WISH,), (5,))
SIX = RULES * 6


def is_integer(value):
    return value.__class__ is int


def is_some(house, value):
    """Tell whether any value is a strictly ascending tuple of contents, not ()."""
    if value.__class__ is not tuple or not value or not all(is_content(house, one) for one in value):
        return False
    return list(value) == sorted(set(value))


def is_content(house, value):
    return value.__class__ is tuple and all(map(is_integer, value)) and value in contents(house)


def is_item(house, value):
    return is_integer(value) and 0 <= value <= len(house[2])


def part_of_fault(house, rules, value):
    """Return the part that InvalidTask must tell, as a list; [] if the value is a task."""
    if value.__class__ is not tuple or len(value) != 3:
        return [None]
    leaks, wishes, prices = value
    if any(part.__class__ is not tuple or len(part) > 3 for part in (leaks, wishes)):
        return [None]
    for j, leak in enumerate(leaks):
        right = leak.__class__ is tuple and len(leak) == 3 and is_item(house, leak[0])
        if not right or not is_some(house, leak[1]) or not is_some(house, leak[2]):
            return [("leak", j)]
    for j, wish in enumerate(wishes):
        right = wish.__class__ is tuple and len(wish) == 3 and is_item(house, wish[0])
        if not right or not is_content(house, wish[1]) or not is_content(house, wish[2]):
            return [("wish", j)]
    right = prices.__class__ is tuple and len(prices) == len(rules)
    if not right or not all(is_integer(price) and 0 <= price <= 99 for price in prices):
        return [("prices",)]
    return []


class Tasks(unittest.TestCase):

    def right(self, value, house=HOUSE, rules=RULES):
        before = copy.deepcopy(value)
        self.assertIs(require_task(house, rules, value), value)
        self.assertEqual(value, before)

    def wrong(self, value, part, house=HOUSE, rules=RULES):
        with self.assertRaises(InvalidTask) as caught:
            require_task(house, rules, value)
        self.assertEqual(caught.exception.part, part)

    def agree(self, value, house=HOUSE, rules=RULES):
        wanted = part_of_fault(house, rules, value)
        if wanted:
            self.wrong(value, wanted[0], house, rules)
        else:
            self.right(value, house, rules)
        return bool(wanted)


class RightTasks(Tasks):

    def test_none_of_each(self):
        self.right(((), (), ()), rules=())
        self.right(((), (), (0,)))
        self.right(((LEAK,), (), (0,)))
        self.right(((), (WISH,), (0,)))
        self.right(((LEAK,), (WISH,), ()), rules=())

    def test_up_to_three_of_each(self):
        for leaks, wishes in itertools.product(range(4), repeat=2):
            self.right(((LEAK,) * leaks, (WISH,) * wishes, (1,)))

    def test_prices_from_0_to_99(self):
        for price in (0, 1, 50, 98, 99):
            self.right((TASK[0], TASK[1], (price,)))
            self.right((TASK[0], TASK[1], (0, price) * 3), rules=SIX)

    def test_each_item_and_content(self):
        for item in range(4):
            for a, b in itertools.product(contents(HOUSE), repeat=2):
                self.right((((item, (a,), (b,)),), ((item, a, b),), (0,)))
        self.right((((2, ((0, 0), (1, 3)), contents(TWO)),), ((2, (1, 0), (0, 3)),), ()), TWO, ())

    def test_starts_and_seen_may_have_the_same(self):
        self.right((((3, contents(HOUSE), contents(HOUSE)),), ((3, (1,), (1,)),), (0,)))


class WrongTasks(Tasks):

    def test_no_triples(self):
        for value in ((), TASK[:2], TASK + ((),), list(TASK), (TASK,), [TASK], TASK[:1]):
            self.wrong(value, None)

    def test_first_and_second_part(self):
        for part in ([], [LEAK], {}, None, "", 0, True, (LEAK,) * 4, (WISH,) * 4, ((),) * 4, {0: LEAK}, "abc"):
            self.wrong((part, TASK[1], TASK[2]), None)
            self.wrong((TASK[0], part, TASK[2]), None)
        self.wrong(((LEAK,) * 4, (), (0,)), None)
        self.wrong(((), (WISH,) * 4, (0,)), None)

    def test_strange_values(self):
        for value in strange_values():
            if value != ():
                self.wrong(value, None)
            self.wrong(((value,), TASK[1], TASK[2]), ("leak", 0))
            self.wrong((TASK[0], (value,), TASK[2]), ("wish", 0))
            self.wrong((TASK[0], TASK[1], value), ("prices",))
            for k in range(3):
                if not (k == 0 and is_item(HOUSE, value)):
                    self.wrong(((LEAK, put(LEAK, k, value)), TASK[1], TASK[2]), ("leak", 1))
                    self.wrong((TASK[0], (WISH, put(WISH, k, value)), TASK[2]), ("wish", 1))
            if not (is_integer(value) and 0 <= value <= 99):
                self.wrong((TASK[0], TASK[1], (value,)), ("prices",))

    def test_items(self):
        for item in NO_INTEGERS + (4, 5):
            self.wrong((((item,) + LEAK[1:],), (), (0,)), ("leak", 0))
            self.wrong(((), ((item,) + WISH[1:],), (0,)), ("wish", 0))
        self.wrong((((3, ((0, 0),), ((0, 0),)),), (), ()), ("leak", 0), TWO, ())

    def test_starts_and_seen(self):
        wrong = (
            [(0,)], (), [], ((1,), (0,)), ((0,), (0,)), ((0,), (1,), (1,)), ((3,),), ((-1,),), ((0, 0),), ((),), ([0],),
            (0,), ((True,),), ((False,),), ((0,), (3,)), None, ((0,), None), {(0,): 1}, "0", ((0,), (2,), (1,)),
        )
        for some in wrong:
            self.wrong((((3, some, ((2,),)),), (), (0,)), ("leak", 0))
            self.wrong((((3, ((2,),), some),), (), (0,)), ("leak", 0))

    def test_wishes(self):
        for content in (0, None, [0], (), (0, 0), (3,), (-1,), (True,), (False,), ((0,),), "0", {0: 0}):
            self.wrong(((), ((2, content, (0,)),), (0,)), ("wish", 0))
            self.wrong(((), ((2, (0,), content),), (0,)), ("wish", 0))

    def test_parts_too_many_or_too_few(self):
        for leak in ((), LEAK[:1], LEAK[:2], LEAK + ((),), LEAK + LEAK, list(LEAK), (LEAK,)):
            self.wrong(((leak,), (), (0,)), ("leak", 0))
        for wish in ((), WISH[:1], WISH[:2], WISH + ((0,),), WISH + WISH, list(WISH), (WISH,)):
            self.wrong(((), (wish,), (0,)), ("wish", 0))

    def test_the_first_that_is_none(self):
        for many in (1, 2, 3):
            for k in range(many):
                self.wrong((put((LEAK,) * many, k, ()), (WISH,), (0,)), ("leak", k))
                self.wrong(((LEAK,), put((WISH,) * many, k, ()), (0,)), ("wish", k))
        self.wrong(((LEAK, None, ()), (WISH,), (0,)), ("leak", 1))
        self.wrong(((LEAK,), (WISH, WISH, []), (0,)), ("wish", 2))

    def test_prices(self):
        for prices in ([5], (), (5, 5), (-1,), (100,), (True,), (False,), ("5",), (None,), ((5,),), {0: 5}, None, 5, "5"):
            self.wrong((TASK[0], TASK[1], prices), ("prices",))
        self.wrong((TASK[0], TASK[1], (0,)), ("prices",), rules=())
        for k in range(6):
            for price in (-1, 100, True, 10 ** 79, [0]):
                self.wrong(((), (), put((9,) * 6, k, price)), ("prices",), rules=SIX)

    def test_two_things_wrong(self):
        self.wrong(([], (WISH, ()), (100,)), None)
        self.wrong((((),), [()], (100,)), None)
        self.wrong((((),), ((),) * 4, ()), None)
        self.wrong(((LEAK, ()), ((), WISH), (100,)), ("leak", 1))
        self.wrong(((LEAK, LEAK), ((), WISH), (100,)), ("wish", 0))
        self.wrong((((), LEAK), (), []), ("leak", 0))

    def test_contents_of_the_house_that_is_asked(self):
        value = ((((2, ((1, 3),), ((0, 0),))),), (), ())
        self.right(value, TWO, ())
        self.wrong(value, ("leak", 0), HOUSE, ())

    def test_every_change_of_every_part(self):
        rules = RULES + ((3, ((0,), (2,)), ((0,), (1,))),)
        task = ((LEAK, (0, ((0,), (2,)), ((1,),))), (WISH, (3, (2,), (2,))), (5, 99))
        found = []
        for at in places_in(task):
            for change in changes(part_at(task, at), [0, 2, 3, (0,), (2,), LEAK, WISH, ((0,), (1,))]):
                found.append(self.agree(exchanged(task, at, change), HOUSE, rules))
        self.assertGreater(found.count(False), 30)
        self.assertGreater(found.count(True), 300)

    def test_a_little_wrong(self):
        rng = random.Random(14)
        found = []
        for house, rules in list(SAMPLES) * 10 + random_samples(100):
            task = random_task(rng, house, rules)
            self.right(task, house, rules)
            for times in (1, 2, 3):
                found.append(self.agree(disturbed(rng, task, times), house, rules))
        self.assertGreater(found.count(True), 200)


class LeaksAndWishes(unittest.TestCase):

    def check(self, house, rules):
        known = contents(house)
        for item in range(len(house[2]) + 1):
            pairs = thing_pairs(house, rules, item)
            for a, b in itertools.product(known, repeat=2):
                self.assertIs(keeps(house, rules, (item, a, b)), (a, b) in pairs)
                self.assertIs(is_safe(house, rules, (item, (a,), (b,))), (a, b) not in pairs)

    def test_the_example(self):
        self.assertIs(is_safe(HOUSE, RULES, LEAK), False)
        self.assertIs(keeps(HOUSE, RULES, WISH), True)
        self.assertIs(is_safe(HOUSE, (), LEAK), True)
        self.assertIs(keeps(HOUSE, (), WISH), False)

    def test_each_pair_of_each_item(self):
        for house, rules in list(SAMPLES) + random_samples(12):
            self.check(house, rules)

    def test_several_starts_and_seen(self):
        rng = random.Random(15)
        found = []
        for house, rules in list(SAMPLES) + random_samples(80):
            known = contents(house)
            for item in range(len(house[2]) + 1):
                pairs = thing_pairs(house, rules, item)
                starts = tuple(sorted(rng.sample(known, rng.randrange(1, 3))))
                seen = tuple(sorted(rng.sample(known, rng.randrange(1, 3))))
                safe = not any(a in starts and b in seen for a, b in pairs)
                found.append(safe)
                self.assertIs(is_safe(house, rules, (item, starts, seen)), safe)
        self.assertGreater(found.count(True), 50)
        self.assertGreater(found.count(False), 50)

    def test_any_of_starts_and_seen_is_enough(self):
        for starts in (((0,),), ((0,), (1,)), ((0,), (2,)), contents(HOUSE)):
            for seen in (((2,),), ((1,), (2,))):
                self.assertIs(is_safe(HOUSE, RULES, (3, starts, seen)), False)
        self.assertIs(is_safe(HOUSE, RULES, (3, ((2,),), ((0,), (1,)))), True)
        self.assertIs(is_safe(HOUSE, RULES, (3, ((0,),), ((1,),))), True)

    def test_of_the_item_alone(self):
        self.assertIs(is_safe(HOUSE, RULES, (2, ((0,),), ((1,),))), False)
        for item in (0, 1, 3):
            self.assertIs(is_safe(HOUSE, RULES, (item, ((0,),), ((1,),))), True)
            self.assertIs(keeps(HOUSE, RULES, (item, (0,), (1,))), False)

    def test_contents_that_come_about_nowhere(self):
        self.assertIs(is_safe(TWO, (), (2, ((0, 0),), ((0, 0),))), True)
        self.assertIs(keeps(TWO, (), (2, (0, 0), (0, 0))), False)
        self.assertIs(keeps(TWO, (), (2, (1, 3), (1, 3))), True)
        self.assertIs(is_safe(TWO, (), (2, ((1, 3),), ((1, 3),))), False)

    def test_a_wish_from_a_content_to_itself(self):
        for content in contents(HOUSE):
            for item in range(4):
                self.assertIs(keeps(HOUSE, (), (item, content, content)), True)

    def test_by_names(self):
        for names in itertools.permutations(("house", "rules", "leak")):
            values = {"house": HOUSE, "rules": RULES, "leak": LEAK}
            self.assertIs(is_safe(**{name: values[name] for name in names}), False)
        for names in itertools.permutations(("house", "rules", "wish")):
            values = {"house": HOUSE, "rules": RULES, "wish": WISH}
            self.assertIs(keeps(**{name: values[name] for name in names}), True)
        for names in itertools.permutations(("house", "rules", "value")):
            values = {"house": HOUSE, "rules": RULES, "value": TASK}
            self.assertIs(require_task(**{name: values[name] for name in names}), TASK)
        with self.assertRaises(InvalidTask):
            require_task(value=(), rules=RULES, house=HOUSE)


if __name__ == "__main__":
    unittest.main()
