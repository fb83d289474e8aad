"""Texts: houses, rules and trees, written line by line and read again."""

from movedfolders.errors import InvalidTree, ParseError
from movedfolders.houses import MOST_KINDS, are_contents, are_sizes, is_content, is_kind
from movedfolders.integers import is_index
from movedfolders.rules import MOST_RULES, is_folder, is_item
from movedfolders.trees import MOST_THINGS, ROOT, require_tree

DIGITS = "0123456789"
# No number of a text is as long as this, and Python does not read very long ones.
MOST_DIGITS = 9


def format_house(house):
    """Return the text of a house."""
    sizes, begin, kinds = house
    lines = [_line("cells", *sizes), _line("begin", *begin)]
    for kind in kinds:
        lines.append("kind")
        lines.extend([_step_line(step) for step in kind])
    return _text(lines)


def format_rules(rules):
    """Return the text of rules."""
    lines = []
    for item, starts, ends in rules:
        lines.extend([_line("rule", item), _line("from", _some(starts)), _line("to", _some(ends))])
    return _text(lines)


def format_tree(tree):
    """Return the text of a tree."""
    return _text([_line("thing", item, "in", "root" if above == ROOT else above) for item, above in tree])


def parse_house(text):
    """Return the house of a text; raise ParseError for any other text."""
    head, kinds = [], []
    for at, line in enumerate(_lines(text)):
        fits = _take_head(head, line) if at < 2 else _take_kind_line(head[0], kinds, line)
        if not fits:
            raise ParseError(at)
    _require_end(text, len(kinds) > 0)
    sizes, begin = head
    return (sizes, begin, tuple([tuple(kind) for kind in kinds]))


def parse_rules(text, house):
    """Return the rules of a text; raise ParseError for any other text."""
    parts = []
    for at, line in enumerate(_lines(text)):
        parts.append(_rule_part(at, line))
        if at >= 3 * MOST_RULES or not _is_rule_part(house, at, parts[at]):
            raise ParseError(at)
    _require_end(text, len(parts) % 3 == 0)
    return tuple([tuple(parts[at:at + 3]) for at in range(0, len(parts), 3)])


def parse_tree(text, house):
    """Return the tree of a text; raise ParseError for any other text."""
    tree = []
    for at, line in enumerate(_lines(text)):
        tree.append(_thing_of(line))
        if not _can_go_on(house, tree):
            raise ParseError(at)
    _require_end(text, True)
    try:
        return require_tree(house, tuple(tree))
    except InvalidTree:
        # A folder that has not come, or a path that does not reach the root: seen only at the end.
        raise ParseError(len(tree)) from None


def _line(*parts):
    return " ".join([str(part) for part in parts])


def _text(lines):
    return "".join([line + "\n" for line in lines])


def _step_line(step):
    if step[0] != "when":
        return _line(*step)
    word, cell, low, high, inner = step
    return _line(word, cell, low, high, *inner)


def _some(contents):
    """Return several contents as a line of rules has them."""
    return " or ".join([_line(*content) for content in contents])


def _lines(text):
    """Return the parts of a text before its line ends."""
    return text.split("\n")[:-1]


def _require_end(text, is_whole):
    """Raise ParseError unless a text of lines that fit is whole, and ends with its last line end."""
    if not is_whole or text.split("\n")[-1] != "":
        raise ParseError(text.count("\n"))


def _take_head(head, line):
    """Take the line of the sizes, then that of the content to begin with; tell whether it fits."""
    words = ("cells", "begin")
    numbers = _numbers_behind(words[len(head)], line)
    head.append(numbers)
    return are_sizes(numbers) if len(head) == 1 else is_content(head[0], numbers)


def _take_kind_line(sizes, kinds, line):
    """Take a line of the kinds; tell whether it fits."""
    if line == "kind":
        kinds.append([])
        return len(kinds) <= MOST_KINDS
    if not kinds:
        return False
    kinds[-1].append(_step_of(line))
    return is_kind(sizes, tuple(kinds[-1]))


def _step_of(line):
    """Return what a line tells as a step; it may be none."""
    words = line.split(" ")
    if words[0] == "when" and len(words) == 7:
        return ("when",) + _numbers(words[1:4]) + ((words[4],) + _numbers(words[5:]),)
    return (words[0],) + _numbers(words[1:])


def _rule_part(at, line):
    """Return what a line tells as a part of a rule; it may be none."""
    if at % 3 == 0:
        numbers = _numbers_behind("rule", line)
        return numbers[0] if len(numbers) == 1 else None
    word = "from " if at % 3 == 1 else "to "
    if not line.startswith(word):
        return None
    return tuple([_numbers(some.split(" ")) for some in line[len(word):].split(" or ")])


def _is_rule_part(house, at, part):
    return is_item(house, part) if at % 3 == 0 else are_contents(house[0], part)


def _thing_of(line):
    """Return what a line tells as a thing (item, above); it may be none."""
    words = line.split(" ")
    if len(words) != 4 or words[0] != "thing" or words[2] != "in":
        return (None, None)
    return (_number(words[1]), ROOT if words[3] == "root" else _number(words[3]))


def _can_go_on(house, tree):
    """Tell whether things can be followed by others, so that none lies in a leaf, if all but the last one can."""
    at = len(tree) - 1
    item, above = tree[at]
    if at >= MOST_THINGS or not is_item(house, item):
        return False
    if above != ROOT and not is_index(above, MOST_THINGS):
        return False
    if 0 <= above <= at and not is_folder(house, tree[above][0]):
        return False
    return is_folder(house, item) or at not in [place for _, place in tree]


def _numbers_behind(word, line):
    """Return the numbers of a line behind its first word, () if it begins with another word."""
    words = line.split(" ")
    return _numbers(words[1:]) if words[0] == word else ()


def _numbers(words):
    return tuple([_number(word) for word in words])


def _number(word):
    """Return the number that a word tells, or None."""
    if not 1 <= len(word) <= MOST_DIGITS or not all([digit in DIGITS for digit in word]):
        return None
    if word[0] == "0" and word != "0":
        return None
    return int(word)
