"""Tables, and cells taken off, by the words of the document: all rows of both tables are looked at."""

from itertools import product

from toldreasons.rules import cells_of, fits


def cell_table(puzzle, c):
    return ((c,), tuple(((value,), 1) for value in puzzle[0][c]))


def rule_table(puzzle, j):
    rule = puzzle[1][j]
    cells = tuple(sorted(cells_of(rule)))
    rows = []
    for row in product(*[puzzle[0][c] for c in cells]):
        at = dict(zip(cells, row))
        if fits(rule, tuple(at[c] for c in cells_of(rule))):
            rows.append((row, 1))
    return (cells, tuple(sorted(rows)))


def put_together(one, other):
    cells = tuple(sorted({*one[0], *other[0]}))
    rows = []
    for values, number in one[1]:
        for others, times in other[1]:
            first, second = dict(zip(one[0], values)), dict(zip(other[0], others))
            if all(first[cell] == second[cell] for cell in first if cell in second):
                both = {**first, **second}
                rows.append((tuple(both[cell] for cell in cells), number * times))
    return (cells, tuple(sorted(rows)))


def summed_off(table, c):
    at = table[0].index(c)
    sums = {}
    for values, number in table[1]:
        left = values[:at] + values[at + 1:]
        sums[left] = sums.get(left, 0) + number
    return (table[0][:at] + table[0][at + 1:], tuple(sorted(sums.items())))


def steps_of(puzzle, order):
    tables = [cell_table(puzzle, c) for c in range(len(puzzle[0]))] + [rule_table(puzzle, j) for j in range(len(puzzle[1]))]
    steps = []
    for cell in order:
        have = [table for table in tables if cell in table[0]]
        tables = [table for table in tables if cell not in table[0]]
        full = have[0]
        for table in have[1:]:
            full = put_together(full, table)
        tables.append(summed_off(full, cell))
        steps.append((cell, full[0], tables[-1]))
    return tuple(steps)
