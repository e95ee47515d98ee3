"""The judge of papers for live and dead values."""

from toldreasons.live import (
    bounds_of_rest, fixed_at, has_end, led_row, possible_cells, rest_of, sure_cells, values_beside,
)
from toldreasons.puzzles import rule_rows
from toldreasons.rules import cells_of, fits, is_rising, is_whole


def _are_numbers(value):
    """Whether it is an ascending tuple of unlike integers."""
    return isinstance(value, tuple) and all([is_whole(member) for member in value]) and is_rising(value)


def _is_state(value):
    if not isinstance(value, tuple) or len(value) != 2:
        return False
    return all([is_whole(member) and member >= 0 for member in value])


def _are_states(value):
    """Whether it is an ascending tuple of unlike states."""
    return isinstance(value, tuple) and all([_is_state(member) for member in value]) and is_rising(value)


def _is_bare(rule, cell, told):
    return len(told) == 0


def _is_lot(rule, cell, told):
    if len(told) != 2 or not _are_numbers(told[0]) or not _are_numbers(told[1]):
        return False
    rest = rest_of(rule, cell)
    return all([other in rest for other in told[0]])


def _is_sums(rule, cell, told):
    if len(told) != 1 or not isinstance(told[0], tuple) or len(told[0]) != len(rest_of(rule, cell)) + 1:
        return False
    return all([_are_numbers(row) for row in told[0]])


def _is_count(rule, cell, told):
    return len(told) == 2 and is_whole(told[0]) and is_whole(told[1])


def _is_runs(rule, cell, told):
    if len(told) != 1 or not isinstance(told[0], tuple) or len(told[0]) != len(rule[1]) + 1:
        return False
    return all([_are_states(row) for row in told[0]])


def _is_parted(rule, cell, told):
    return len(told) == 1 and _are_numbers(told[0]) and all([other in rule[1] for other in told[0]])


# Of each kind of rule the word of its papers, and what tells whether the rest has their form.
_WORDS = {
    "table": "rows",
    "unlike": "lot",
    "sum": "sums",
    "count": "count",
    "below": "below",
    "runs": "runs",
    "joined": "parted",
}

_FORMS = {
    "table": _is_bare,
    "unlike": _is_lot,
    "sum": _is_sums,
    "count": _is_count,
    "below": _is_bare,
    "runs": _is_runs,
    "joined": _is_parted,
}


def _rows_hold(domains, rule, cell, value, told):
    return len(rule_rows(fixed_at(domains, cell, value), rule)) == 0


def _lot_holds(domains, rule, cell, value, told):
    cells, values = told
    if len(values) >= len(cells):
        return False
    return all([v == value or v in values for other in cells for v in domains[other]])


def _sums_hold(domains, rule, cell, value, told):
    rows = told[0]
    if rows[0] != (0,):
        return False
    for i, other in enumerate(rest_of(rule, cell)):
        there = {number: True for number in rows[i + 1]}
        if not all([number + v in there for number in rows[i] for v in domains[other]]):
            return False
    return not any([rule[2] <= number + value <= rule[3] for number in rows[-1]])


def _count_holds(domains, rule, cell, value, told):
    least, most = told
    surely, possibly = bounds_of_rest(domains, rule, cell)
    if least > surely or most < possibly:
        return False
    own = 1 if value in rule[2] else 0
    return least + own > rule[4] or most + own < rule[3]


def _below_holds(domains, rule, cell, value, told):
    return len(values_beside(domains, rule, cell, value)) == 0


def _runs_hold(domains, rule, cell, value, told):
    rows = told[0]
    if rows[0] != ((0, 0),):
        return False
    fixed = fixed_at(domains, cell, value)
    for i, other in enumerate(rule[1]):
        there = {state: True for state in rows[i + 1]}
        if not all([state in there for state in led_row(rows[i], fixed[other], rule[2])]):
            return False
    return not has_end(rows[-1], rule[2])


def _parted_holds(domains, rule, cell, value, told):
    lot = told[0]
    fixed = fixed_at(domains, cell, value)
    sure = sure_cells(fixed, rule)
    if all([other in lot for other in sure]) or not any([other in lot for other in sure]):
        return False
    possible = possible_cells(fixed, rule)
    return all([(a in lot) == (b in lot) for a, b in rule[2] if a in possible and b in possible])


_HOLDS = {
    "table": _rows_hold,
    "unlike": _lot_holds,
    "sum": _sums_hold,
    "count": _count_holds,
    "below": _below_holds,
    "runs": _runs_hold,
    "joined": _parted_holds,
}


def _judge_row(domains, rule, cell, value, told):
    cells = cells_of(rule)
    if len(told) != 1 or not isinstance(told[0], tuple) or len(told[0]) != len(cells):
        return ("form",)
    row = told[0]
    if not all([is_whole(member) for member in row]):
        return ("form",)
    if not all([member in domains[other] for other, member in zip(cells, row)]):
        return ("row",)
    return None if fits(rule, row) and row[cells.index(cell)] == value else ("row",)


def _judge_empty(domains, rule, told):
    if len(told) != 1 or not is_whole(told[0]) or told[0] not in cells_of(rule):
        return ("form",)
    return None if domains[told[0]] == () else ("reason",)


def judge_live(domains, rule, cell, value, paper):
    """None if any value is a paper that the value is live, or dead, for the rule, else its first fault."""
    if not isinstance(paper, tuple) or len(paper) < 2:
        return ("form",)
    if paper[0] == "live":
        return _judge_row(domains, rule, cell, value, paper[1:])
    if paper[0] != "dead":
        return ("form",)
    if paper[1] == "empty":
        return _judge_empty(domains, rule, paper[2:])
    has_form = _FORMS[rule[0]]
    if paper[1] != _WORDS[rule[0]] or not has_form(rule, cell, paper[2:]):
        return ("form",)
    holds = _HOLDS[rule[0]]
    return None if holds(domains, rule, cell, value, paper[2:]) else ("reason",)
