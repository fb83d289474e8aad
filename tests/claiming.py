"""Claims and certificates that several tests go through."""

from movedfolders.claims import decide
from movedfolders.houses import contents
from tests import oracles
from tests.samples import random_task, random_tree
from tests.support import HOUSE, RULES

TREE = ((0, -1), (1, -1), (2, 0), (3, 2))
LEAK = (3, ((0,),), ((2,),))
WISH = (2, (0,), (1,))
TASK = ((LEAK,), (), (5,))
HOPELESS = ((LEAK,), (WISH,), (5,))
# Two ways into 1 for the wide folder, and one for the leaf from 1 into 0 or 2.
MORE = RULES + ((2, ((0,), (2,)), ((1,),)), (3, ((1,),), ((0,), (2,))))

# One of each kind that is true, and one that is not.
TRUE = (
    ("can", RULES, 3, (0,), (2,)),
    ("least", RULES, 3, (0,), (2,), 1),
    ("safe", RULES, (3, ((0,),), ((1,),))),
    ("pairs", RULES, 3, (((0,), (0,)), ((0,), (2,)), ((1,), (1,)), ((1,), (2,)), ((2,), (2,)))),
    ("comes", RULES, TREE, 3, (2,), 1),
    ("never", RULES, TREE, 1, ((1,), (2,))),
    ("withdraw", RULES, TASK, 5),
    ("lost", RULES, HOPELESS),
)
FALSE = (
    ("can", RULES, 3, (0,), (1,)),
    ("least", RULES, 3, (0,), (2,), 2),
    ("least", RULES, 3, (0,), (2,), 0),
    ("safe", RULES, (3, ((0,),), ((2,),))),
    ("pairs", RULES, 3, (((0,), (0,)), ((1,), (1,)), ((1,), (2,)), ((2,), (2,)))),
    ("pairs", RULES, 3, (((0,), (0,)), ((0,), (1,)), ((0,), (2,)), ((1,), (1,)), ((1,), (2,)), ((2,), (2,)))),
    ("comes", RULES, TREE, 3, (2,), 2),
    ("comes", RULES, TREE, 3, (2,), 0),
    ("comes", RULES, TREE, 3, (1,), 1),
    ("never", RULES, TREE, 3, ((2,),)),
    ("withdraw", RULES, TASK, 6),
    ("withdraw", RULES, TASK, 4),
    ("withdraw", RULES, HOPELESS, 5),
    ("lost", RULES, TASK),
)


def certificates():
    """Return a certificate for each of these claims."""
    return [decide(HOUSE, claim) for claim in TRUE + FALSE]


def around(rng, number, most=oracles.BIG):
    """Return a number and those beside it."""
    return [n for n in (number - 1, number, number + 1) if 0 <= n <= most]


def claims_about(rng, house, rules):
    """Return claims of all kinds, many of them true or almost so."""
    known, items = contents(house), range(len(house[2]) + 1)
    pairs = oracles.least_costs(house, rules)[1]
    item = rng.choice(items)
    key = rng.choice(sorted(pairs)) if rng.random() < 0.7 else (item, rng.choice(known), rng.choice(known))
    found = [("can", rules) + key, ("safe", rules, (key[0], (key[1],), (key[2],)))]
    found.append(("safe", rules, (item, known[:1], known[1:])))
    found += [("least", rules) + key + (n,) for n in around(rng, pairs.get(key, (1, 0))[0])]
    some = tuple(sorted(one[1:] for one in pairs if one[0] == item))
    left_out = rng.randrange(len(some))
    put_in = tuple(sorted(set(some) | {(rng.choice(known), rng.choice(known))}))
    found += [("pairs", rules, item, one) for one in (some, some[:left_out] + some[left_out + 1:], put_in)]
    return found + tree_claims(rng, house, rules, pairs) + task_claims(rng, house, rules[:4])


def tree_claims(rng, house, rules, pairs):
    known = contents(house)
    tree = random_tree(rng, house, rng.choice((1, 3, 6, 12)))
    thing = rng.randrange(len(tree))
    level = oracles.levels_of(house, rules, pairs, tree, thing)
    found = []
    for content in rng.sample(known, min(3, len(known))):
        found += [("comes", rules, tree, thing, content, n) for n in around(rng, level.get(content, (1, 0))[0])]
        found.append(("never", rules, tree, thing, (content,)))
    out = tuple(content for content in known if content not in level)
    return found + ([("never", rules, tree, thing, out)] if out else []) + [("never", rules, tree, thing, known)]


def task_claims(rng, house, rules):
    task = random_task(rng, house, rules)
    good = [one for one in oracles.withdrawals_of(rules) if oracles.is_met(house, rules, task, one)]
    price = min([oracles.price_of(task, one) for one in good], default=sum(task[2]))
    return [("lost", rules, task)] + [("withdraw", rules, task, n) for n in around(rng, price, 594)]
