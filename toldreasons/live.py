"""Live values: what stands in some row of a rule, and papers for values that are live or dead."""

from toldreasons.puzzles import cut_to, rule_rows
from toldreasons.rules import cells_of, joined_to_first


def fixed_at(domains, cell, value):
    """The domains with this value alone at the cell."""
    return cut_to((domains, ()), ((cell, value),))[0]


def rest_of(rule, cell):
    """The rule's other cells, in its own order."""
    return [other for other in cells_of(rule) if other != cell]


def _pairs_of(rule, rows):
    """The ascending pairs (cell, value) of all rows."""
    return tuple(sorted({pair for row in rows for pair in zip(cells_of(rule), row)}))


def live_plain(domains, rule):
    """The ascending pairs (cell, value) of all live values, by trying all rows."""
    return _pairs_of(rule, rule_rows(domains, rule))


def _dead_rows(domains, rule, cell, value):
    return None if rule_rows(fixed_at(domains, cell, value), rule) else ("dead", "rows")


def _hand_on(held, came, start, free):
    """Gives a free value to the cell that came to it, and that cell's own one to the cell that came to that one."""
    own = {cell: value for value, cell in held.items()}
    value = free
    while came[value] != start:
        cell = came[value]
        held[value] = cell
        value = own[cell]
    held[value] = start


def _unheld_for(domains, barred, start, held):
    """None if start and all cells that hold a value can hold unlike ones, and held tells them then.

    Otherwise the values to which start comes; others than the barred one are not in the domains of their holders.
    """
    came = {}
    waiting = [start]
    while waiting:
        cell = waiting.pop()
        for value in domains[cell]:
            if value != barred and value not in came:
                came[value] = cell
                if value not in held:
                    _hand_on(held, came, start, value)
                    return None
                waiting.append(held[value])
    return list(came)


def _dead_lot(domains, rule, cell, value):
    held = {}
    for other in rest_of(rule, cell):
        values = _unheld_for(domains, value, other, held)
        if values is not None:
            cells = [other] + [held[v] for v in values]
            return ("dead", "lot", tuple(sorted(cells)), tuple(sorted(values)))
    return None


def _dead_sums(domains, rule, cell, value):
    rows = [(0,)]
    for other in rest_of(rule, cell):
        ahead = rows[-1]
        rows.append(tuple(sorted({number + v for number in ahead for v in domains[other]})))
    if any([rule[2] <= number + value <= rule[3] for number in rows[-1]]):
        return None
    return ("dead", "sums", tuple(rows))


def bounds_of_rest(domains, rule, cell):
    """How many of a counting rule's other cells surely have one of its values, and how many can have."""
    marks = [[value in rule[2] for value in domains[other]] for other in rest_of(rule, cell)]
    return (len([row for row in marks if all(row)]), len([row for row in marks if any(row)]))


def _dead_count(domains, rule, cell, value):
    least, most = bounds_of_rest(domains, rule, cell)
    own = 1 if value in rule[2] else 0
    if least + own <= rule[4] and most + own >= rule[3]:
        return None
    return ("dead", "count", least, most)


def values_beside(domains, rule, cell, value):
    """The values of the other cell of "below" that are on the right side of a cell's value."""
    _, lower, upper = rule
    if cell == lower:
        return [v for v in domains[upper] if value < v]
    return [v for v in domains[lower] if v < value]


def _dead_below(domains, rule, cell, value):
    return None if values_beside(domains, rule, cell, value) else ("dead", "below")


def led_on(state, value, lengths):
    """The state of runs to which a value leads a state, None if there is none."""
    ended, run = state
    if value != 0:
        return (ended, run + 1) if ended < len(lengths) and run + 1 <= lengths[ended] else None
    if run == 0:
        return state
    return (ended + 1, 0) if ended < len(lengths) and run == lengths[ended] else None


def led_row(row, domain, lengths):
    """The ascending states to which the values of a domain lead those of a row."""
    found = [led_on(state, value, lengths) for state in row for value in domain]
    return tuple(sorted({state for state in found if state is not None}))


def has_end(row, lengths):
    """Whether a row has a state in which all runs have been."""
    many = len(lengths)
    return (many, 0) in row or many > 0 and (many - 1, lengths[-1]) in row


def _dead_runs(domains, rule, cell, value):
    fixed = fixed_at(domains, cell, value)
    rows = [((0, 0),)]
    for other in rule[1]:
        rows.append(led_row(rows[-1], fixed[other], rule[2]))
    return None if has_end(rows[-1], rule[2]) else ("dead", "runs", tuple(rows))


def sure_cells(domains, rule):
    """The cells of a joining rule that surely have one of its values."""
    return [cell for cell in rule[1] if all([value in rule[3] for value in domains[cell]])]


def possible_cells(domains, rule):
    """The cells of a joining rule that can have one of its values."""
    return [cell for cell in rule[1] if any([value in rule[3] for value in domains[cell]])]


def _dead_parted(domains, rule, cell, value):
    fixed = fixed_at(domains, cell, value)
    sure = sure_cells(fixed, rule)
    others = [other for other in possible_cells(fixed, rule) if other not in sure[:1]]
    lot = joined_to_first(sure[:1] + others, rule[2])
    # Where no cell is sure, none need have one of the values: so all are joined.
    if all([other in lot for other in sure]):
        return None
    return ("dead", "parted", tuple(sorted(lot)))


_DEAD = {
    "table": _dead_rows,
    "unlike": _dead_lot,
    "sum": _dead_sums,
    "count": _dead_count,
    "below": _dead_below,
    "runs": _dead_runs,
    "joined": _dead_parted,
}


def dead_paper(domains, rule, cell, value):
    """The paper that a value of the cell's domain is dead for the rule, None if it is live."""
    for other in cells_of(rule):
        if domains[other] == ():
            return ("dead", "empty", other)
    find_paper = _DEAD[rule[0]]
    return find_paper(domains, rule, cell, value)


def live_values(domains, rule):
    """The ascending pairs (cell, value) of all live values, without trying all rows."""
    # A table may have thousands of rows, so they are looked at once, not for each value.
    if rule[0] == "table":
        return _pairs_of(rule, rule_rows(domains, rule))
    pairs = [(cell, value) for cell in sorted(cells_of(rule)) for value in domains[cell]]
    return tuple([(cell, value) for cell, value in pairs if dead_paper(domains, rule, cell, value) is None])


def row_with(domains, rule, cell, value):
    """A row that has the value at the cell, None if there is none."""
    if value not in domains[cell] or dead_paper(domains, rule, cell, value) is not None:
        return None
    chosen = fixed_at(domains, cell, value)
    # What is live stays so when the cell gets it, so each further cell has a live value, too.
    for other in cells_of(rule):
        live = [v for v in chosen[other] if dead_paper(chosen, rule, other, v) is None]
        chosen = fixed_at(chosen, other, live[0])
    return tuple([chosen[other][0] for other in cells_of(rule)])


def live_paper(domains, rule, cell, value):
    """A paper that a value of the cell's domain is live, or dead, for the rule."""
    dead = dead_paper(domains, rule, cell, value)
    if dead is None:
        return ("live", row_with(domains, rule, cell, value))
    return dead
