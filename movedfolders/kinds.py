"""Kinds of folders: what they make of a content, and what comes about without moves."""

from movedfolders.houses import contents


def after(house, content, kinds):
    """Return what the kinds, one after the other, make of a content."""
    for kind in kinds:
        content = made_by(house, kind, content)
    return content


def kind_table(house):
    """Return the ascending tuple of (content, kind, what the kind makes of it)."""
    return tuple([
        (content, kind, made_by(house, kind, content))
        for content in contents(house)
        for kind in range(len(house[2]))
    ])


def come_to(house):
    """Return the ascending tuple of what can come about without moves."""
    return tuple(sorted(_shortest_rows(house)))


def row_to(house, content):
    """Return a shortest tuple of kinds that make the content of begin, or None."""
    return _shortest_rows(house).get(content)


def made_by(house, kind, content):
    """Return what the kind with this index makes of a content."""
    for step in house[2][kind]:
        content = _behind_step(house[0], step, content)
    return content


def _behind_step(sizes, step, content):
    if step[0] != "when":
        return _behind_plain_step(sizes, step, content)
    _, cell, low, high, inner = step
    if low <= content[cell] <= high:
        return _behind_plain_step(sizes, inner, content)
    return content


def _behind_plain_step(sizes, step, content):
    cell = step[1]
    value = _new_value(sizes, step, content)
    return content[:cell] + (value,) + content[cell + 1:]


def _new_value(sizes, step, content):
    word, cell, last = step
    if word == "set":
        return last
    if word == "raise":
        return max(content[cell], last)
    if word == "lower":
        return min(content[cell], last)
    return min(content[last], sizes[cell] - 1)


def _shortest_rows(house):
    """Return a shortest row of kinds for each content that can come about."""
    begin = house[1]
    rows = {begin: ()}
    newest = [begin]
    # Length by length: the first row that makes a content is a shortest one.
    while newest:
        newest = _add_longer_rows(house, rows, newest)
    return rows


def _add_longer_rows(house, rows, newest):
    """Add what one more kind makes of the newest contents; return what is new."""
    found = []
    for content in newest:
        for kind in range(len(house[2])):
            made = made_by(house, kind, content)
            if made not in rows:
                rows[made] = rows[content] + (kind,)
                found.append(made)
    return found
