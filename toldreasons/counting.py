"""Answers counted by taking cells off, and told by their numbers, without listing them."""

from toldreasons.puzzles import asked_cells, fillings, is_answer, narrowed
from toldreasons.rules import is_whole
from toldreasons.widths import neighbours, width_of


def cell_table(puzzle, c):
    """The table of a cell alone, with each value of its domain."""
    return ((c,), tuple([((value,), 1) for value in puzzle[0][c]]))


def rule_table(puzzle, j):
    """The table of the fillings of rule number j."""
    question = ("rule", j)
    rows = [(tuple([value for _, value in t]), 1) for t in fillings(puzzle, question)]
    return (asked_cells(puzzle, question), tuple(rows))


def _picked(row, places):
    return tuple([row[at] for at in places])


def _rows_by(rows, places):
    """The rows by their values at these places."""
    found = {}
    for row in rows:
        found.setdefault(_picked(row[0], places), []).append(row)
    return found


def put_together(one, other):
    """The table of all cells of both, a row for each two rows that agree, with the product of their numbers."""
    cells = sorted(set(one[0] + other[0]))
    shared = [cell for cell in cells if cell in one[0] and cell in other[0]]
    own = [one[0].index(cell) for cell in shared]
    found = _rows_by(other[1], [other[0].index(cell) for cell in shared])
    both = one[0] + other[0]
    places = [both.index(cell) for cell in cells]
    rows = []
    for values, number in one[1]:
        for others, times in found.get(_picked(values, own), []):
            rows.append((_picked(values + others, places), number * times))
    return (tuple(cells), tuple(sorted(rows)))


def _summed_to(table, cells):
    """The table with these of its cells alone: rows that are alike in them become one, their numbers summed."""
    places = [table[0].index(cell) for cell in cells]
    sums = {}
    for values, number in table[1]:
        left = _picked(values, places)
        sums[left] = sums.get(left, 0) + number
    return (tuple(cells), tuple(sorted(sums.items())))


def summed_off(table, c):
    """The table without a cell: rows that are alike without it become one, with the sum of their numbers."""
    return _summed_to(table, [cell for cell in table[0] if cell != c])


def _first_tables(puzzle):
    """All tables of cells, and behind them those of rules."""
    cells = [cell_table(puzzle, c) for c in range(len(puzzle[0]))]
    return cells + [rule_table(puzzle, j) for j in range(len(puzzle[1]))]


def _all_together(tables):
    """One table of all of them."""
    told = ((), (((), 1),))
    for table in tables:
        told = put_together(told, table)
    return told


def _steps(tables, order):
    """For each cell that is taken off the table in which all that have it are put together, and the one that comes."""
    left = tables
    steps = []
    for cell in order:
        full = _all_together([table for table in left if cell in table[0]])
        came = summed_off(full, cell)
        left = [table for table in left if cell not in table[0]] + [came]
        steps.append((full, came))
    return steps


def steps_of(puzzle, order):
    """For each cell of the order, taken off in turn: the cell, the lot of cells put together, the table that came."""
    steps = _steps(_first_tables(puzzle), order)
    return tuple([(cell, full[0], came) for cell, (full, came) in zip(order, steps)])


def _whole_number(table):
    """The number of a table without cells; 0 if it has no row."""
    return sum([number for _, number in table[1]])


def _count(steps):
    """The product of the numbers of the tables that are left without cells."""
    many = 1
    for _, came in steps:
        if came[0] == ():
            many = many * _whole_number(came)
    return many


def count_by(puzzle, order):
    """How many answers the puzzle has, by taking off its cells in this order."""
    return _count(_steps(_first_tables(puzzle), order))


def widest_lot(puzzle, order):
    """How many cells the greatest lot of an order has."""
    # A lot is a cell and its bag: the neighbours that are left.
    return width_of(neighbours(puzzle), order) + 1


def only_at(puzzle, c, values):
    """The puzzle in whose domain of a cell only those of its values are left that are among the values."""
    kept = [domain if cell != c else values for cell, domain in enumerate(puzzle[0])]
    return narrowed(puzzle, kept)


def _spread(steps, order, i, known):
    """The table in which cell number i of the order was, each row with the number of answers that have its values.

    known keeps those that have been told by now.
    """
    if i not in known:
        full, came = steps[i]
        above = {(): _count(steps)}
        if came[0] != ():
            later = _spread(steps, order, min([order.index(cell) for cell in came[0]]), known)
            above = {values: number for values, number in _summed_to(later, came[0])[1]}
        beneath = {values: number for values, number in came[1]}
        places = [full[0].index(cell) for cell in came[0]]
        rows = []
        for values, number in full[1]:
            border = _picked(values, places)
            # What is counted beneath the border and what is counted above it hang on the border alone.
            rows.append((values, number * (above.get(border, 0) // beneath[border])))
        known[i] = (full[0], rows)
    return known[i]


def _shares_at(steps, order, c, known):
    """For each value of a cell that some row has how many answers have it there."""
    table = _spread(steps, order, order.index(c), known)
    return {values[0]: number for values, number in _summed_to(table, (c,))[1]}


def shares_by(puzzle, order):
    """For each cell the ascending pairs of each value of its domain and of how many answers have it there."""
    steps = _steps(_first_tables(puzzle), order)
    known = {}
    shares = [_shares_at(steps, order, c, known) for c in range(len(puzzle[0]))]
    return tuple([tuple([(v, shares[c].get(v, 0)) for v in domain]) for c, domain in enumerate(puzzle[0])])


def sure_values(puzzle, order):
    """The ascending pairs (cell, value) that stand in all answers, () if there is no answer."""
    shares = shares_by(puzzle, order)
    # Each answer has one value at each cell, so the numbers of any cell add up to all.
    many = sum([number for _, number in shares[0]])
    return tuple([(c, v) for c, pairs in enumerate(shares) for v, number in pairs if number == many and many > 0])


def is_one(puzzle, order):
    """Whether there is just one answer."""
    return count_by(puzzle, order) == 1


def _cut_table(table, c, value):
    """The table with those rows alone that do not have another value at the cell."""
    cells, rows = table
    if c not in cells:
        return table
    at = cells.index(c)
    return (cells, tuple([row for row in rows if row[0][at] == value]))


def _cut_tables(tables, c, value):
    return [_cut_table(table, c, value) for table in tables]


def _value_behind(shares, number):
    """The value that answer number so many has, shares being by values, and how many answers have lesser ones."""
    ahead = 0
    for value, share in sorted(shares.items()):
        if number < ahead + share:
            return (value, ahead)
        ahead += share
    return (None, ahead)


def answer_of_number(puzzle, order, number):
    """The answer with this number, in the ascending sequence of all; None if there are not so many."""
    tables = _first_tables(puzzle)
    answer = ()
    rest = number
    for c in range(len(puzzle[0])):
        value, ahead = _value_behind(_shares_at(_steps(tables, order), order, c, {}), rest)
        if value is None:
            return None
        answer = answer + (value,)
        rest = rest - ahead
        tables = _cut_tables(tables, c, value)
    return answer


def number_of_answer(puzzle, order, values):
    """The number of an answer in the ascending sequence of all; None for a tuple of integers that is none."""
    if not is_answer(puzzle, values):
        return None
    tables = _first_tables(puzzle)
    number = 0
    for c, own in enumerate(values):
        shares = _shares_at(_steps(tables, order), order, c, {})
        number += sum([share for value, share in shares.items() if value < own])
        tables = _cut_tables(tables, c, own)
    return number


def _is_like(value, model):
    """Whether any value is the same as what is made of tuples and integers."""
    if not isinstance(model, tuple):
        return is_whole(value) and value == model
    if not isinstance(value, tuple) or len(value) != len(model):
        return False
    return all([_is_like(member, own) for member, own in zip(value, model)])


def judge_steps(puzzle, order, value):
    """None if any value is the steps of an order, else its first fault."""
    if not isinstance(value, tuple) or len(value) != len(order):
        return ("form",)
    if not all([isinstance(step, tuple) and len(step) == 3 for step in value]):
        return ("form",)
    for i, model in enumerate(steps_of(puzzle, order)):
        if not _is_like(value[i], model):
            return ("step", i)
    return None
