"""Rules: their seven kinds, their bounds, and which values fit them."""


def is_whole(value):
    """Whether the value is an integer; True and False are none."""
    return isinstance(value, int) and not isinstance(value, bool)


def is_value(value):
    """Whether the value may stand in a cell."""
    return is_whole(value) and 0 <= value <= 99


def is_rising(members):
    """Whether each of the members, which can be compared, is less than the one behind it."""
    return all(one < other for one, other in zip(members, members[1:]))


def are_values(value):
    """Whether it is an ascending tuple of unlike values."""
    return isinstance(value, tuple) and all(is_value(member) for member in value) and is_rising(value)


def is_cell(value, n):
    """Whether it is one of n cells."""
    return is_whole(value) and 0 <= value < n


def cells_of(rule):
    """The cells of a rule, in its own order."""
    if rule[0] == "below":
        return rule[1:3]
    return rule[1]


def _are_cells(value, n):
    if not isinstance(value, tuple) or len(value) == 0:
        return False
    return all(is_cell(cell, n) for cell in value) and len(set(value)) == len(value)


def _is_span(low, high):
    return is_whole(low) and is_whole(high) and 0 <= low <= high


def _is_row(value, width):
    return isinstance(value, tuple) and len(value) == width and all(is_value(member) for member in value)


def _is_tie(value, cells):
    if not isinstance(value, tuple) or len(value) != 2:
        return False
    if not is_whole(value[0]) or not is_whole(value[1]):
        return False
    return value[0] in cells and value[1] in cells and value[0] < value[1]


def _is_table(rule):
    rows = rule[2]
    if not isinstance(rows, tuple):
        return False
    return all(_is_row(row, len(rule[1])) for row in rows) and is_rising(rows)


def _is_sum(rule):
    return _is_span(rule[2], rule[3])


def _is_count(rule):
    return are_values(rule[2]) and _is_span(rule[3], rule[4])


def _is_runs(rule):
    lengths = rule[2]
    return isinstance(lengths, tuple) and all(is_whole(length) and length > 0 for length in lengths)


def _is_joined(rule):
    ties = rule[2]
    if not isinstance(ties, tuple) or not are_values(rule[3]):
        return False
    return all(_is_tie(tie, rule[1]) for tie in ties) and is_rising(ties)


_SIZES = {"table": 3, "unlike": 2, "sum": 4, "count": 5, "below": 3, "runs": 3, "joined": 4}

_RESTS = {
    "table": _is_table,
    "sum": _is_sum,
    "count": _is_count,
    "runs": _is_runs,
    "joined": _is_joined,
}


def is_rule(value, n):
    """Whether any value is a rule over n cells."""
    if not isinstance(value, tuple) or len(value) == 0 or not isinstance(value[0], str):
        return False
    word = value[0]
    if _SIZES.get(word) != len(value) or not _are_cells(cells_of(value), n):
        return False
    if word in ("unlike", "below"):
        return True
    is_rest = _RESTS[word]
    return is_rest(value)


def stretches(values):
    """The lengths of the runs of values other than 0, in order."""
    lengths = []
    ahead = 0
    for value in values:
        if value != 0 and ahead != 0:
            lengths[-1] += 1
        elif value != 0:
            lengths.append(1)
        ahead = value
    return tuple(lengths)


def _partners(ties, cell):
    """The cells that a tie joins to a cell."""
    return [b for a, b in ties if a == cell] + [a for a, b in ties if b == cell]


def joined_to_first(marked, ties):
    """The marked cells to which ways over ties lead from the first one of them, through marked cells alone."""
    reached = {cell: True for cell in marked[:1]}
    waiting = marked[:1]
    while waiting:
        cell = waiting.pop()
        for other in _partners(ties, cell):
            if other in marked and other not in reached:
                reached[other] = True
                waiting.append(other)
    return list(reached)


def fits(rule, values):
    """Whether the values of the rule's cells, in its own order, are as it says."""
    word = rule[0]
    if word == "table":
        return values in rule[2]
    if word == "unlike":
        return len(set(values)) == len(values)
    if word == "sum":
        return rule[2] <= sum(values) <= rule[3]
    if word == "count":
        return rule[3] <= len([value for value in values if value in rule[2]]) <= rule[4]
    if word == "below":
        return values[0] < values[1]
    if word == "runs":
        return stretches(values) == rule[2]
    marked = [cell for cell, value in zip(rule[1], values) if value in rule[3]]
    return len(joined_to_first(marked, rule[2])) == len(marked)


def values_under(rule, values):
    """Of the values of all cells those of the rule's cells, in its own order."""
    return tuple([values[cell] for cell in cells_of(rule)])
