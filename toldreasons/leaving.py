"""Dead values left out of the domains of a puzzle, again and again, till all are live."""

from toldreasons.live import dead_paper, live_values
from toldreasons.rules import cells_of, is_whole


def _dead_values(domains, rule):
    """The ascending pairs (cell, value) of all values that are dead for a rule."""
    live = {pair: True for pair in live_values(domains, rule)}
    pairs = [(cell, value) for cell in sorted(cells_of(rule)) for value in domains[cell]]
    return [pair for pair in pairs if pair not in live]


def _without(domains, pairs):
    """The domains without the values of some pairs (cell, value)."""
    return tuple([tuple([v for v in domain if (c, v) not in pairs]) for c, domain in enumerate(domains)])


def _left_out(puzzle):
    """The strikes of dead values, rule by rule, and the domains behind them."""
    domains, rules = puzzle
    strikes = []
    many = -1
    while len(strikes) != many:
        many = len(strikes)
        for j, rule in enumerate(rules):
            dead = _dead_values(domains, rule)
            strikes.extend([(j, cell, value) for cell, value in dead])
            domains = _without(domains, dead)
    return strikes, domains


def live_domains(puzzle):
    """The domains that are left when dead values are left out till all are live; all () if some cell loses all."""
    _, domains = _left_out(puzzle)
    return tuple([() for _ in domains]) if () in domains else domains


def dead_strikes(puzzle):
    """The triples (rule's number, cell, value) of the dead values that are left out, rules taken in turn."""
    strikes, _ = _left_out(puzzle)
    return tuple(strikes)


def _is_strike(rules, value):
    """Whether any value is a triple of a rule's number, one of its cells and an integer."""
    if not isinstance(value, tuple) or len(value) != 3 or not all([is_whole(member) for member in value]):
        return False
    return 0 <= value[0] < len(rules) and value[1] in cells_of(rules[value[0]])


def judge_dead(puzzle, value):
    """None if any value is a tuple of such triples, behind which no value is dead, else its first fault."""
    domains, rules = puzzle
    if not isinstance(value, tuple) or not all([_is_strike(rules, strike) for strike in value]):
        return ("form",)
    for k, (j, cell, struck) in enumerate(value):
        if struck not in domains[cell]:
            return ("stands", k)
        if dead_paper(domains, rules[j], cell, struck) is None:
            return ("live", k)
        domains = _without(domains, [(cell, struck)])
    for j, rule in enumerate(rules):
        dead = _dead_values(domains, rule)
        if dead:
            return ("more", j) + dead[0]
    return None
