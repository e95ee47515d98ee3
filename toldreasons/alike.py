"""Puzzles that are alike: leadings of cells and values, and the plain form by which puzzles are compared."""

from itertools import permutations

from toldreasons.puzzles import asked_cells, fillings
from toldreasons.rules import is_cell, is_value, is_whole


def _table_of(puzzle, j):
    """Rule number j as the table of its fillings, cells and rows ascending."""
    question = ("rule", j)
    rows = [tuple([value for _, value in t]) for t in fillings(puzzle, question)]
    return ("table", asked_cells(puzzle, question), tuple(rows))


def plain(puzzle):
    """The puzzle with each rule told by its fillings alone: tables ascending, equal ones once."""
    domains, rules = puzzle
    tables = [_table_of(puzzle, j) for j in range(len(rules))]
    return (domains, tuple(sorted(set(tables))))


def all_values(puzzle):
    """The ascending values of all domains."""
    return tuple(sorted({value for domain in puzzle[0] for value in domain}))


def led_part(leading, part):
    """What a part is led to."""
    cells, values = leading
    others = dict(values)
    return tuple(sorted([(cells[c], others[value]) for c, value in part]))


def led_answer(leading, answer):
    """What an answer is led to."""
    return tuple([value for _, value in led_part(leading, tuple(enumerate(answer)))])


def led_domain(domain, others):
    """The domain with each value led to its other."""
    return tuple(sorted([others[value] for value in domain]))


def led_table(table, cells, others):
    """The table with its cells and values led, cells and rows ascending."""
    places = sorted([(cells[c], at) for at, c in enumerate(table[1])])
    columns = [[others[row[at]] for row in table[2]] for _, at in places]
    return ("table", tuple([cell for cell, _ in places]), tuple(sorted(zip(*columns))))


def led_plain(flat, leading):
    """What a puzzle in its plain form is led to."""
    cells, values = leading
    others = dict(values)
    domains, tables = flat
    moved = sorted([(cells[c], led_domain(domain, others)) for c, domain in enumerate(domains)])
    came = [led_table(table, cells, others) for table in tables]
    return (tuple([domain for _, domain in moved]), tuple(sorted(came)))


def led(puzzle, leading):
    """What a puzzle is led to, in its plain form."""
    return led_plain(plain(puzzle), leading)


def led_after(leading, late):
    """The leading that does the first and then the late one."""
    cells, values = leading
    places, further = late
    others = dict(further)
    return (tuple([places[cell] for cell in cells]), tuple([(value, others[other]) for value, other in values]))


def led_back(leading):
    """The leading that leads back."""
    cells, values = leading
    back = sorted([(place, c) for c, place in enumerate(cells)])
    return (tuple([c for _, c in back]), tuple(sorted([(other, value) for value, other in values])))


def standing(puzzle):
    """The leading that leads each cell and each value to itself."""
    return (tuple(range(len(puzzle[0]))), tuple([(value, value) for value in all_values(puzzle)]))


def lots_of_tables(tables):
    """The ascending tables by their cells: a list of those with just these."""
    lots = {}
    for table in tables:
        lots.setdefault(table[1], []).append(table)
    return lots


def cells_between(domains, aims):
    """All tuples of cells that lead each of the domains to an equal one of the aims."""
    found = [()]
    for domain in domains:
        places = [place for place, aim in enumerate(aims) if aim == domain]
        found = [cells + (place,) for cells in found for place in places if place not in cells]
    return found


def _row_counts(lot):
    """For each row in how many tables of a lot it stands."""
    counts = {}
    for table in lot:
        for row in table[2]:
            counts[row] = counts.get(row, 0) + 1
    return counts


def _is_led_to(lot, aim, cells, others):
    """Whether the tables of a lot, all of the same cells, are led to those of the aim; both with their counts."""
    tables, counts = lot
    targets, wanted = aim
    places = sorted([(cells[c], at) for at, c in enumerate(tables[0][1])])
    order = [at for _, at in places]
    # Most leadings fail at one of the first rows, so that no table need be led for them.
    if not all(wanted.get(tuple([others[row[at]] for at in order])) == many for row, many in counts.items()):
        return False
    return sorted([led_table(table, cells, others) for table in tables]) == targets


def _are_led_to(lots, aims, cells, others):
    """Whether each lot of tables is led to one of the aims, which are no more."""
    for own, lot in lots.items():
        place = tuple(sorted([cells[c] for c in own]))
        if place not in aims or not _is_led_to(lot, aims[place], cells, others):
            return False
    return len(lots) == len(aims)


def _counted_lots(flat):
    return {cells: (lot, _row_counts(lot)) for cells, lot in lots_of_tables(flat[1]).items()}


def leadings_between(one, other):
    """All leadings that lead one puzzle to another one, both in their plain forms."""
    values = all_values(one)
    targets = list(all_values(other))
    if len(one[0]) != len(other[0]) or len(values) != len(targets):
        return []
    lots = _counted_lots(one)
    aims = _counted_lots(other)
    found = []
    for order in permutations(targets):
        others = dict(zip(values, order))
        domains = [led_domain(domain, others) for domain in one[0]]
        for cells in cells_between(domains, other[0]):
            if _are_led_to(lots, aims, cells, others):
                found.append((cells, tuple(zip(values, order))))
    return found


def find_leading(one, other):
    """A leading of one puzzle to the plain form of another one, None if they are not alike."""
    found = leadings_between(plain(one), plain(other))
    return found[0] if found else None


def _are_led_cells(value, n):
    if not isinstance(value, tuple) or len(value) != n:
        return False
    return all([is_cell(cell, n) for cell in value]) and len(set(value)) == n


def _is_led_pair(value, own):
    if not isinstance(value, tuple) or len(value) != 2:
        return False
    return is_whole(value[0]) and value[0] == own and is_value(value[1])


def _are_led_values(value, values):
    if not isinstance(value, tuple) or len(value) != len(values):
        return False
    if not all([_is_led_pair(pair, own) for pair, own in zip(value, values)]):
        return False
    return len(set([other for _, other in value])) == len(value)


def _is_leading(puzzle, value):
    """Whether any value is a leading of the puzzle."""
    if not isinstance(value, tuple) or len(value) != 2:
        return False
    return _are_led_cells(value[0], len(puzzle[0])) and _are_led_values(value[1], all_values(puzzle))


def _table_fault(wanted, came):
    """The first table of one tuple that is not in the other one, and else the other way round; None without one."""
    for table in wanted:
        if table not in came:
            return ("table", table[1])
    for table in came:
        if table not in wanted:
            return ("table", table[1])
    return None


def judge_leading(one, other, value):
    """None if any value is a leading of one puzzle to the plain form of another one, else its first fault."""
    if not _is_leading(one, value):
        return ("form",)
    if len(one[0]) != len(other[0]):
        return ("cells",)
    came = led(one, value)
    for c, place in enumerate(value[0]):
        if came[0][place] != other[0][place]:
            return ("domain", c)
    return _table_fault(plain(other)[1], came[1])
