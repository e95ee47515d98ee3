"""Puzzles that are alike, by the words of the document: all leadings are tried."""

from itertools import permutations, product

from toldreasons.rules import cells_of, fits


def plain(puzzle):
    domains, rules = puzzle
    tables = []
    for rule in rules:
        cells = sorted(cells_of(rule))
        rows = []
        for row in product(*[domains[c] for c in cells]):
            at = dict(zip(cells, row))
            if fits(rule, tuple(at[c] for c in cells_of(rule))):
                rows.append(row)
        table = ("table", tuple(cells), tuple(sorted(rows)))
        if table not in tables:
            tables.append(table)
    return (domains, tuple(sorted(tables)))


def values_of(puzzle):
    found = []
    for domain in puzzle[0]:
        for value in domain:
            if value not in found:
                found.append(value)
    return sorted(found)


def all_leadings(puzzle, targets):
    """All leadings of a puzzle whose others are these."""
    values = values_of(puzzle)
    for cells in permutations(range(len(puzzle[0]))):
        for others in permutations(targets, len(values)):
            yield (cells, tuple(zip(values, others)))


def led_part(leading, part):
    found = {}
    for cell, value in part:
        found[leading[0][cell]] = [other for own, other in leading[1] if own == value][0]
    return tuple((cell, found[cell]) for cell in sorted(found))


def led_answer(leading, answer):
    return tuple(value for cell, value in led_part(leading, enumerate(answer)))


def led_flat(flat, leading):
    """What a plain puzzle is led to."""
    cells, values = leading
    n = len(cells)
    domains = tuple(
        tuple(sorted(other for own, other in values if own in flat[0][cells.index(place)])) for place in range(n)
    )
    tables = []
    for _, own, rows in flat[1]:
        parts = [led_part(leading, zip(own, row)) for row in rows]
        tables.append(("table", tuple(sorted(cells[c] for c in own)), tuple(sorted(tuple(v for _, v in part) for part in parts))))
    return (domains, tuple(sorted(tables)))


def led(puzzle, leading):
    return led_flat(plain(puzzle), leading)


def leadings_between(one, other):
    """All leadings that lead one puzzle to the plain form of another one, ascending."""
    if len(one[0]) != len(other[0]) or len(values_of(one)) != len(values_of(other)):
        return []
    flat, goal = plain(one), plain(other)
    return sorted(leading for leading in all_leadings(one, values_of(other)) if led_flat(flat, leading) == goal)


def least_form(puzzle):
    """The least form, and how many leadings lead to it."""
    flat = plain(puzzle)
    forms = [led_flat(flat, leading) for leading in all_leadings(puzzle, range(len(values_of(puzzle))))]
    return min(forms), forms.count(min(forms))


def fault_of(one, other, leading):
    """What judge_leading tells of a leading of one."""
    if len(one[0]) != len(other[0]):
        return ("cells",)
    came, goal = led(one, leading), plain(other)
    unlike = [c for c, place in enumerate(leading[0]) if came[0][place] != goal[0][place]]
    lacking = [table for table in goal[1] if table not in came[1]] + [table for table in came[1] if table not in goal[1]]
    if unlike:
        return ("domain", unlike[0])
    return ("table", lacking[0][1]) if lacking else None
