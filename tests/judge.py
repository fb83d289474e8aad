"""Points 16, 17 and 18 written once more, word by word, for the tests to compare with.

Each fault_* function goes through all that can be wrong, in the order of the document, and yields it.
"""

from movedfolders.houses import contents
from movedfolders.kinds import after
from tests import oracles
from tests.oracles import BIG, is_index


# Point 16 and what claims speak of.

def is_content(house, value):
    return oracles.is_content(value, contents(house))


def are_contents(house, value):
    if value.__class__ is not tuple or not value or not all(is_content(house, one) for one in value):
        return False
    return list(value) == sorted(set(value))


def is_item(house, value):
    return is_index(value, len(house[2]) + 1)


def are_rules(house, value):
    if value.__class__ is not tuple or len(value) > 6:
        return False
    return all(
        rule.__class__ is tuple and len(rule) == 3 and is_item(house, rule[0])
        and are_contents(house, rule[1]) and are_contents(house, rule[2])
        for rule in value
    )


def is_tree(house, value):
    if value.__class__ is not tuple or len(value) > 200:
        return False
    for pair in value:
        if pair.__class__ is not tuple or len(pair) != 2 or not is_item(house, pair[0]):
            return False
        if pair[1].__class__ is not int or not -1 <= pair[1] < len(value):
            return False
    for k, (_, above) in enumerate(value):
        steps = 0
        while above != -1:
            if value[above][0] == len(house[2]) or steps > 200:
                return False
            above, steps = value[above][1], steps + 1
    return True


def is_leak(house, value):
    if value.__class__ is not tuple or len(value) != 3:
        return False
    return is_item(house, value[0]) and are_contents(house, value[1]) and are_contents(house, value[2])


def is_wish(house, value):
    if value.__class__ is not tuple or len(value) != 3:
        return False
    return is_item(house, value[0]) and is_content(house, value[1]) and is_content(house, value[2])


def is_task(house, rules, value):
    if value.__class__ is not tuple or len(value) != 3 or any(part.__class__ is not tuple for part in value):
        return False
    leaks, wishes, prices = value
    if len(leaks) > 3 or len(wishes) > 3 or len(prices) != len(rules):
        return False
    right = all(is_leak(house, leak) for leak in leaks) and all(is_wish(house, wish) for wish in wishes)
    return right and all(is_index(price, 100) for price in prices)


def is_pair(house, value):
    return value.__class__ is tuple and len(value) == 2 and all(is_content(house, one) for one in value)


PARTS = {
    "can": "item content content", "least": "item content content number", "safe": "leak", "pairs": "item pairs",
    "comes": "tree thing content number", "never": "tree thing contents", "withdraw": "task paid", "lost": "task",
}


def is_claim(house, value):
    """Tell whether any value is a valid claim."""
    if value.__class__ is not tuple or len(value) < 2 or value[0].__class__ is not str or value[0] not in PARTS:
        return False
    names = PARTS[value[0]].split()
    if len(value) != len(names) + 2 or not are_rules(house, value[1]):
        return False
    return all(is_part(house, value, name, part) for name, part in zip(names, value[2:]))


def is_part(house, claim, name, part):
    if name == "thing":
        return is_index(part, len(claim[2]))
    if name == "task":
        return is_task(house, claim[1], part)
    if name == "number":
        return is_index(part, BIG + 1)
    if name == "paid":
        return is_index(part, 595)
    if name == "pairs":
        if part.__class__ is not tuple or not all(is_pair(house, pair) for pair in part):
            return False
        return list(part) == sorted(set(part))
    tests = {"item": is_item, "content": is_content, "contents": are_contents, "leak": is_leak, "tree": is_tree}
    return tests[name](house, part)


# Point 17: forms.

def is_parts(value, many):
    return value.__class__ is tuple and len(value) == many


def is_chain(rules, many, value):
    if value.__class__ is not tuple or len(value) not in (1, 3, 5, 7, 9, 11, 13, 15, 17):
        return False
    return all(is_index(x, len(rules) if k % 2 else many) for k, x in enumerate(value))


def is_ledger(house, rules, value):
    if value.__class__ is not tuple or not 1 <= len(value) <= 100:
        return False
    for k, row in enumerate(value):
        if row != ("root",):
            if not is_parts(row, 2) or not is_index(row[0], len(house[2])) or not is_chain(rules, k, row[1]):
                return False
    return True


def is_course(house, rules, value):
    return is_parts(value, 2) and is_ledger(house, rules, value[0]) and is_chain(rules, len(value[0]), value[1])


def is_way(house, claim, value):
    path = oracles.above_all(claim[2], claim[3])
    if not is_parts(value, len(path)):
        return False
    return all(
        entry == () or is_parts(entry, 2) and is_index(entry[0], len(claim[1])) and is_course(house, claim[1], entry[1])
        for entry in value
    )


def are_indices(rules, value):
    if value.__class__ is not tuple or not all(is_index(x, len(rules)) for x in value):
        return False
    return list(value) == sorted(set(value))


def is_reason_leak(house, claim, value):
    return is_parts(value, 2) and is_index(value[0], len(claim[2][0])) and is_course(house, claim[1], value[1])


def is_reason_lack(house, claim, value):
    if not is_parts(value, 3) or not is_index(value[0], len(claim[2][1])):
        return False
    return are_indices(claim[1], value[1]) and oracles.has_form(house, value[2])


SHAPES = {
    ("can", "shown"): ["course"], ("can", "broken"): ["table"],
    ("least", "shown"): ["course table"], ("least", "broken"): ["'less course", "'more table"],
    ("safe", "shown"): ["table"], ("safe", "broken"): ["course"],
    ("pairs", "shown"): ["table ledger chains"], ("pairs", "broken"): ["'lacks course", "'wrong index table"],
    ("comes", "shown"): ["way table"], ("comes", "broken"): ["'less way", "'more table"],
    ("never", "shown"): ["table"], ("never", "broken"): ["way"],
    ("withdraw", "shown"): ["withdrawal tables ledger chains leaks lacks"],
    ("withdraw", "broken"): ["'less withdrawal tables ledger chains", "'more leaks lacks"],
    ("lost", "shown"): ["leaks lacks"], ("lost", "broken"): ["withdrawal tables ledger chains"],
}


def read_paper(house, word, claim, paper):
    """Return the parts of a paper by their names, or None if it is not of its form."""
    for shape in SHAPES[claim[0], word]:
        names = shape.split()
        parts = (paper,) if len(names) == 1 else paper
        if is_parts(parts, len(names)):
            named = dict(zip(names, parts))
            if all(has_form(house, claim, named, name, part) for name, part in named.items()):
                return named
    return None


def has_form(house, claim, named, name, part):
    rules = claim[1]
    if name[0] == "'":
        return part.__class__ is str and part == name[1:]
    if name == "table":
        return oracles.has_form(house, part)
    if name == "course":
        return is_course(house, rules, part)
    if name == "way":
        return is_way(house, claim, part)
    if name == "ledger":
        return is_ledger(house, rules, part)
    if name == "index":
        return is_index(part, len(claim[3]))
    if name == "withdrawal":
        return are_indices(rules, part)
    if name == "tables":
        return is_parts(part, len(claim[2][0])) and all(oracles.has_form(house, one) for one in part)
    if name == "chains":
        many = len(claim[3]) if claim[0] == "pairs" else len(claim[2][1])
        ledger = named["ledger"]
        if not is_ledger(house, rules, ledger) or not is_parts(part, many):
            return False
        return all(is_chain(rules, len(ledger), chain) for chain in part)
    test = is_reason_leak if name == "leaks" else is_reason_lack
    return part.__class__ is tuple and len(part) <= 20 and all(test(house, claim, one) for one in part)


# Point 18: faults.

def fault_of_chain(rules, left, item, pairs, chain):
    for j in range(len(chain) // 2):
        before, rule, behind = chain[2 * j:2 * j + 3]
        mover, froms, to = rules[rule]
        if rule not in left or mover != item:
            yield ("rule", j)
        if pairs[before][1] not in froms:
            yield ("from", j)
        if pairs[behind][0] not in to:
            yield ("to", j)


def pair_of(pairs, chain):
    return (pairs[chain[0]][0], pairs[chain[-1]][1])


def pairs_of(house, ledger):
    pairs = []
    for row in ledger:
        if row == ("root",):
            pairs.append((house[1], house[1]))
        else:
            pairs.append(tuple(after(house, one, (row[0],)) for one in pair_of(pairs, row[1])))
    return pairs


def moves_of(course):
    ledger, chain = course
    moves = []
    for row in list(ledger) + [(None, chain)]:
        links = (0,) if row == ("root",) else row[1]
        moves.append(len(links) // 2 + (0 if row == ("root",) else sum(moves[k] for k in links[::2])))
    return moves[-1]


def fault_of_ledger(house, rules, left, ledger):
    pairs = pairs_of(house, ledger)
    for k, row in enumerate(ledger):
        if row != ("root",):
            for fault in fault_of_chain(rules, left, row[0], pairs, row[1]):
                yield ("row", k, fault)


def fault_of_course(house, rules, item, course, right=None, moves=None):
    """right tells of a pair whether it may be, moves of a number."""
    ledger, chain = course
    pairs = pairs_of(house, ledger)
    yield from fault_of_ledger(house, rules, range(6), ledger)
    for fault in fault_of_chain(rules, range(6), item, pairs, chain):
        yield ("chain", fault)
    if right is not None and not right(pair_of(pairs, chain)):
        yield ("pair",)
    if moves is not None and not moves(moves_of(course)):
        yield ("moves",)


def fault_of_table(house, rules, left, table, barred=None, key=None, n=0):
    """barred tells of (item, a, b) whether no row may have it; the row with the key has at least n moves."""
    yield from oracles.all_table_faults(house, rules, table, left)
    rows = {row[:3]: row[3] for row in table[2]}
    if barred is not None and any(barred(one) for one in rows):
        yield ("pair",)
    if key in rows and rows[key] < n:
        yield ("less",)


def fault_of_way(house, claim, way, wanted, moves=None):
    rules, tree, thing = claim[1:4]
    content, total = house[1], 0
    path = oracles.above_all(tree, thing)[::-1]
    for j, (one, entry) in enumerate(zip(path, way)):
        item = tree[one][0]
        if entry != ():
            rule, course = entry
            mover, froms, to = rules[rule]
            pair = pair_of(pairs_of(house, course[0]), course[1])
            if mover != item:
                yield ("entry", j, ("rule",))
            if content not in froms:
                yield ("entry", j, ("from",))
            for fault in fault_of_course(house, rules, item, course):
                yield ("entry", j, ("course", fault))
            if pair[0] not in to:
                yield ("entry", j, ("to",))
            content, total = pair[1], total + 1 + moves_of(course)
        if one != thing:
            content = after(house, content, (item,))
    if content not in wanted:
        yield ("content",)
    if moves is not None and not moves(total):
        yield ("moves",)


def fault_of_levels(house, claim, table, barred=(), content=None, n=0):
    own = list(fault_of_table(house, claim[1], range(6), table))
    yield from own
    if not own:
        rows = {row[:3]: row[3:] for row in table[2]}
        level = oracles.levels_of(house, claim[1], rows, claim[2], claim[3])
        if any(one in level for one in barred):
            yield ("content",)
        if content in level and level[content][0] < n:
            yield ("less",)


def leads(leak, key):
    return key[0] == leak[0] and key[1] in leak[1] and key[2] in leak[2]


def fault_of_fix(house, claim, named):
    rules, (leaks, wishes, _) = claim[1:3]
    left = [r for r in range(len(rules)) if r not in named["withdrawal"]]
    for j, (leak, table) in enumerate(zip(leaks, named["tables"])):
        for fault in fault_of_table(house, rules, left, table, lambda key: leads(leak, key)):
            yield ("table", j, fault)
    yield from fault_of_links(house, rules, left, named, wishes)


def fault_of_links(house, rules, left, named, wanted):
    pairs = pairs_of(house, named["ledger"])
    for fault in fault_of_ledger(house, rules, left, named["ledger"]):
        yield ("ledger", fault)
    for j, ((item, a, b), chain) in enumerate(zip(wanted, named["chains"])):
        for fault in fault_of_chain(rules, left, item, pairs, chain):
            yield ("chain", j, fault)
        if pair_of(pairs, chain) != (a, b):
            yield ("chain", j, ("pair",))


def fault_of_reasons(house, claim, named, asked):
    rules, (leaks, wishes, prices) = claim[1:3]
    for j, (k, course) in enumerate(named["leaks"]):
        for fault in fault_of_course(house, rules, leaks[k][0], course, lambda pair: leads(leaks[k], leaks[k][:1] + pair)):
            yield ("leak", j, fault)
    for j, (k, kept, table) in enumerate(named["lacks"]):
        for fault in fault_of_table(house, rules, kept, table, lambda key: key == wishes[k]):
            yield ("lack", j, fault)
    for withdrawal in oracles.withdrawals_of(rules):
        if asked(oracles.price_of(claim[2], withdrawal)):
            left = set(range(len(rules))) - set(withdrawal)
            out = any(set(oracles.used_in(course)) <= left for _, course in named["leaks"])
            if not out and not any(left <= set(kept) for _, kept, _ in named["lacks"]):
                yield ("open", withdrawal)


def first_fault(house, certificate):
    """Return the first fault of any value, or None."""
    if not is_parts(certificate, 3):
        return ("form",)
    word, claim, paper = certificate
    if not is_claim(house, claim):
        return ("claim",)
    if word.__class__ is not str or word not in ("shown", "broken"):
        return ("paper",)
    named = read_paper(house, word, claim, paper)
    if named is None:
        return ("paper",)
    judges = {
        "can": fault_of_can, "least": fault_of_least, "safe": fault_of_safe, "pairs": fault_of_pairs,
        "comes": fault_of_comes, "never": fault_of_never, "withdraw": fault_of_withdraw, "lost": fault_of_lost,
    }
    return next(judges[claim[0]](house, claim, named, word == "shown"), None)


def inside(part, faults):
    for fault in faults:
        yield (part, fault)


def fault_of_can(house, claim, named, shown):
    _, rules, item, a, b = claim
    if shown:
        yield from fault_of_course(house, rules, item, named["course"], lambda pair: pair == (a, b))
    else:
        yield from fault_of_table(house, rules, range(6), named["table"], lambda key: key == (item, a, b))


def fault_of_least(house, claim, named, shown):
    _, rules, item, a, b, n = claim
    if "course" in named:
        def moves(many):
            return many == n if shown else many < n

        faults = fault_of_course(house, rules, item, named["course"], lambda pair: pair == (a, b), moves)
        yield from inside("course", faults)
    if "table" in named:
        least = n if shown else n + 1
        yield from inside("table", fault_of_table(house, rules, range(6), named["table"], None, (item, a, b), least))


def fault_of_safe(house, claim, named, shown):
    _, rules, leak = claim
    if shown:
        yield from fault_of_table(house, rules, range(6), named["table"], lambda key: leads(leak, key))
    else:
        yield from fault_of_course(house, rules, leak[0], named["course"], lambda pair: leads(leak, leak[:1] + pair))


def fault_of_pairs(house, claim, named, shown):
    _, rules, item, pairs = claim
    if shown:
        yield from inside("table", fault_of_table(house, rules, range(6), named["table"]))
        if tuple(row[1:3] for row in named["table"][2] if row[0] == item) != pairs:
            yield ("pairs",)
        yield from fault_of_links(house, rules, range(6), named, [(item,) + pair for pair in pairs])
    elif "course" in named:
        yield from inside("course", fault_of_course(house, rules, item, named["course"]))
        if pair_of(pairs_of(house, named["course"][0]), named["course"][1]) in pairs:
            yield ("among",)
    else:
        wrong = (item,) + pairs[named["index"]]
        yield from inside("table", fault_of_table(house, rules, range(6), named["table"], lambda key: key == wrong))


def fault_of_comes(house, claim, named, shown):
    content, n = claim[4:]
    if "way" in named:
        def moves(many):
            return many == n if shown else many < n

        yield from inside("way", fault_of_way(house, claim, named["way"], (content,), moves))
    if "table" in named:
        least = n if shown else n + 1
        yield from inside("table", fault_of_levels(house, claim, named["table"], (), content, least))


def fault_of_never(house, claim, named, shown):
    if shown:
        yield from fault_of_levels(house, claim, named["table"], claim[4])
    else:
        yield from fault_of_way(house, claim, named["way"], claim[4])


def fault_of_withdraw(house, claim, named, shown):
    task, n = claim[2:]
    if "withdrawal" in named:
        price = oracles.price_of(task, named["withdrawal"])
        if not (price == n if shown else price < n):
            yield ("price",)
        yield from fault_of_fix(house, claim, named)
    if "leaks" in named:
        yield from fault_of_reasons(house, claim, named, lambda price: price < n if shown else price <= n)


def fault_of_lost(house, claim, named, shown):
    if shown:
        yield from fault_of_reasons(house, claim, named, lambda price: True)
    else:
        yield from fault_of_fix(house, claim, named)


# Point 3: whether a claim is true.

def is_true(house, claim):
    """Tell whether a valid claim is true, by the least sets of points 8, 9 and 13."""
    word, rules = claim[:2]
    pairs = oracles.least_costs(house, rules)[1]
    if word in ("can", "least"):
        key = claim[2:5]
        return key in pairs and (word == "can" or pairs[key][0] == claim[5])
    if word == "safe":
        return not any(leads(claim[2], key) for key in pairs)
    if word == "pairs":
        return tuple(sorted(key[1:] for key in pairs if key[0] == claim[2])) == claim[3]
    if word in ("comes", "never"):
        level = oracles.levels_of(house, rules, pairs, claim[2], claim[3])
        if word == "comes":
            return claim[4] in level and level[claim[4]][0] == claim[5]
        return not any(content in level for content in claim[4])
    good = [one for one in oracles.withdrawals_of(rules) if oracles.is_met(house, rules, claim[2], one)]
    prices = [oracles.price_of(claim[2], one) for one in good]
    return not prices if word == "lost" else prices != [] and min(prices) == claim[3]
