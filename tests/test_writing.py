"""Points 8, 9 and 13: pairs, least costs and forecasts speak of what house and rules say, not of how they are written."""

import random
import unittest

from movedfolders.forecasts import forecast
from movedfolders.houses import require_house
from movedfolders.pairs import place_pairs, thing_pairs
from movedfolders.rules import require_rules
from movedfolders.tables import fewest, least_table
from movedfolders.trees import require_tree
from tests.samples import CUBE, SAMPLES, random_rules, random_samples, random_tree
from tests.support import HOUSE, RULES, THREE, put


def told(house, rules, tree):
    """Return (place pairs with costs, thing pairs with costs by item, forecasts), all as dicts and lists."""
    places, _, things = least_table(house, rules)
    forecasts = [forecast(house, rules, tree, thing) for thing in range(len(tree))]
    return ({row[:2]: row[2:] for row in places}, {row[:3]: row[3:] for row in things}, forecasts)


def kinds_in_order(order, house, rules, tree):
    """Return the same with the kinds in another order: the kind k stands at order[k] now."""
    sizes, begin, kinds = house
    items = list(order) + [len(kinds)]
    other = [None] * len(kinds)
    for k, kind in enumerate(kinds):
        other[order[k]] = kind
    rules = tuple((items[item], froms, to) for item, froms, to in rules)
    return (sizes, begin, tuple(other)), rules, tuple((items[item], above) for item, above in tree)


def content_in_order(order, content):
    """Return a content with its cells in another order: the cell c stands at order[c] now."""
    other = [None] * len(content)
    for c, value in enumerate(content):
        other[order[c]] = value
    return tuple(other)


def step_in_order(order, step):
    if step[0] == "when":
        word, cell, low, high, inner = step
        return (word, order[cell], low, high, step_in_order(order, inner))
    word, cell, last = step
    return (word, order[cell], order[last] if word == "copy" else last)


def cells_in_order(order, house, rules):
    sizes, begin, kinds = house

    def some(values):
        return tuple(sorted(content_in_order(order, content) for content in values))

    kinds = tuple(tuple(step_in_order(order, step) for step in kind) for kind in kinds)
    rules = tuple((item, some(froms), some(to)) for item, froms, to in rules)
    return (content_in_order(order, sizes), content_in_order(order, begin), kinds), rules


def idle_put_in(at, house, rules, tree):
    """Return the same with a kind that does nothing put in at a place among the kinds."""
    sizes, begin, kinds = house
    items = [item + (item >= at) for item in range(len(kinds) + 1)]
    rules = tuple((items[item], froms, to) for item, froms, to in rules)
    tree = tuple((items[item], above) for item, above in tree)
    return (sizes, begin, kinds[:at] + ((),) + kinds[at:]), rules, tree


def parted(rng, rules):
    """Return the rules with one of them parted in two by a content of from or of to, where one has several."""
    for index in rng.sample(range(len(rules)), len(rules)):
        for part in (1, 2):
            some = rules[index][part]
            if len(some) > 1:
                at = rng.randrange(1, len(some))
                low, high = put(rules[index], part, some[:at]), put(rules[index], part, some[at:])
                return rules[:index] + (low,) + rules[index + 1:] + (high,)
    return rules


class Writing(unittest.TestCase):

    def samples(self):
        rng = random.Random(81)
        cubes = [(CUBE, random_rules(rng, CUBE)[:3]), (THREE, random_rules(rng, THREE))]
        for house, rules in list(SAMPLES) + cubes + random_samples(60):
            yield rng, house, rules, random_tree(rng, house, 6)

    def test_kinds_that_change_places(self):
        for rng, house, rules, tree in self.samples():
            order = rng.sample(range(len(house[2])), len(house[2]))
            other, others, same = kinds_in_order(order, house, rules, tree)
            require_house(other), require_rules(other, others), require_tree(other, same)
            places, things, forecasts = told(house, rules, tree)
            items = order + [len(order)]
            moved = {(items[item], a, b): cost for (item, a, b), cost in things.items()}
            self.assertEqual(told(other, others, same), (places, moved, forecasts))
            for item in range(len(items)):
                self.assertEqual(thing_pairs(other, others, items[item]), thing_pairs(house, rules, item))

    def test_cells_that_change_places(self):
        done = 0
        for rng, house, rules, tree in self.samples():
            order = rng.sample(range(len(house[0])), len(house[0]))
            done += order != sorted(order)
            other, others = cells_in_order(order, house, rules)
            require_house(other), require_rules(other, others)
            places, things, forecasts = told(house, rules, tree)

            def moved(content):
                return content_in_order(order, content)

            wanted = (
                {(moved(a), moved(b)): cost for (a, b), cost in places.items()},
                {(item, moved(a), moved(b)): cost for (item, a, b), cost in things.items()},
                [tuple(sorted((moved(content), *cost) for content, *cost in rows)) for rows in forecasts],
            )
            self.assertEqual(told(other, others, tree), wanted)
            pairs = tuple(sorted((moved(a), moved(b)) for a, b in place_pairs(house, rules)))
            self.assertEqual(place_pairs(other, others), pairs)
        self.assertGreater(done, 10)

    def test_a_kind_that_does_nothing(self):
        for rng, house, rules, tree in self.samples():
            if len(house[2]) == 5:
                continue
            at = rng.randrange(len(house[2]) + 1)
            other, others, same = idle_put_in(at, house, rules, tree)
            require_house(other), require_rules(other, others), require_tree(other, same)
            places, things, forecasts = told(house, rules, tree)
            wanted = {(item + (item >= at), a, b): cost for (item, a, b), cost in things.items()}
            wanted.update({(at, a, b): cost for (a, b), cost in places.items()})
            self.assertEqual(told(other, others, same), (places, wanted, forecasts))

    def test_rules_in_another_order_said_twice_and_parted(self):
        for rng, house, rules, tree in self.samples():
            wanted = told(house, rules, tree)
            ways = [rules[::-1], tuple(rng.sample(rules, len(rules)))]
            if len(rules) < 6:
                ways += [rules + rules[:1], rules[-1:] + rules, parted(rng, rules)]
            if len(rules) < 4:
                ways += [parted(rng, parted(rng, rules)), rules + rules[::-1]]
            for other in ways:
                require_rules(house, other)
                self.assertEqual(told(house, other, tree), wanted)

    def test_rules_parted_by_hand(self):
        one = ((2, ((0,), (2,)), ((0,), (1,))),)
        wanted = told(HOUSE, one, ((2, -1), (3, 0)))
        for other in (
            ((2, ((0,),), ((0,), (1,))), (2, ((2,),), ((0,), (1,)))),
            ((2, ((0,), (2,)), ((0,),)), (2, ((0,), (2,)), ((1,),))),
            tuple((2, (a,), (b,)) for a in one[0][1] for b in one[0][2]),
        ):
            self.assertEqual(told(HOUSE, other, ((2, -1), (3, 0))), wanted)
        self.assertNotEqual(told(HOUSE, RULES, ((2, -1), (3, 0))), wanted)

    def test_rules_left_out(self):
        fewer = 0
        for rng, house, rules, tree in self.samples():
            places, things, forecasts = told(house, rules, tree)
            for index in range(len(rules)):
                left = rules[:index] + rules[index + 1:]
                some, others, rows = told(house, left, tree)
                for before, after in ((places, some), (things, others)):
                    for key, cost in after.items():
                        self.assertIn(key, before)
                        self.assertGreaterEqual(cost, before[key])
                    fewer += len(after) < len(before)
                for before, after in zip(forecasts, rows):
                    costs = {content: cost for content, *cost in before}
                    for content, *cost in after:
                        self.assertIn(content, costs)
                        self.assertGreaterEqual(cost, costs[content])
        self.assertGreater(fewer, 30)

    def test_fewest_tells_the_same(self):
        for rng, house, rules, tree in self.samples():
            things = told(house, rules, tree)[1]
            for item, a, b in rng.sample(sorted(things), min(3, len(things))):
                self.assertEqual(fewest(house, rules[::-1], item, a, b), things[item, a, b])


if __name__ == "__main__":
    unittest.main()
