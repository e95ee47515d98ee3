"""Live values, their papers and live domains, by the words of the document ([8.1] to [8.3]): slow and plain."""

from itertools import product

import made
import oracle


def rows(domains, rule):
    """All rows of a rule, in the order of its cells."""
    return [row for row in product(*(domains[c] for c in oracle.cells_of(rule))) if oracle.fits(rule, row)]


def live(domains, rule):
    cells = oracle.cells_of(rule)
    return tuple(sorted({(cells[at], row[at]) for row in rows(domains, rule) for at in range(len(cells))}))


def dead(domains, rule):
    found = live(domains, rule)
    return [(c, v) for c in sorted(oracle.cells_of(rule)) for v in domains[c] if (c, v) not in found]


def is_numbers(value):
    return oracle.is_tuple_of(value, oracle.is_number) and oracle.rises(value)


def is_states(value):
    def is_state(pair):
        return oracle.is_tuple_of(pair, lambda number: oracle.is_number(number) and number >= 0) and len(pair) == 2
    return oracle.is_tuple_of(value, is_state) and oracle.rises(value)


def has_form(rule, cell, paper):
    """Whether it has the form of a paper of this rule for the cell."""
    cells = oracle.cells_of(rule)
    rest = [c for c in cells if c != cell]
    if type(paper) is not tuple or len(paper) < 2 or type(paper[0]) is not str:
        return False
    if paper[0] == "live":
        return len(paper) == 2 and oracle.is_tuple_of(paper[1], oracle.is_number) and len(paper[1]) == len(cells)
    if paper[0] != "dead" or type(paper[1]) is not str:
        return False
    word, told = paper[1], paper[2:]
    if word == "empty":
        return len(told) == 1 and oracle.is_number(told[0]) and told[0] in cells
    pairs = (("table", "rows"), ("unlike", "lot"), ("sum", "sums"), ("count", "count"), ("below", "below"), ("runs", "runs"), ("joined", "parted"))
    if (rule[0], word) not in pairs:
        return False
    if word in ("rows", "below"):
        return told == ()
    if word == "lot":
        return len(told) == 2 and is_numbers(told[0]) and is_numbers(told[1]) and set(told[0]) <= set(rest)
    if word == "count":
        return len(told) == 2 and oracle.is_number(told[0]) and oracle.is_number(told[1])
    if len(told) != 1:
        return False
    if word == "parted":
        return is_numbers(told[0]) and set(told[0]) <= set(cells)
    if word == "sums":
        return oracle.is_tuple_of(told[0], is_numbers) and len(told[0]) == len(rest) + 1
    return oracle.is_tuple_of(told[0], is_states) and len(told[0]) == len(cells) + 1


def step_of_runs(state, value, lengths):
    ended, many = state
    if value != 0:
        return [(ended, many + 1)] if len(lengths) > ended and lengths[ended] >= many + 1 else []
    if many == 0:
        return [state]
    return [(ended + 1, 0)] if len(lengths) > ended and many == lengths[ended] else []


def shows(domains, rule, cell, value, word, told):
    """Whether what a paper of the right form tells of a dead value holds."""
    cells = oracle.cells_of(rule)
    rest = [c for c in cells if c != cell]
    alone = [(value,) if c == cell else domain for c, domain in enumerate(domains)]
    if word == "empty":
        return domains[told[0]] == ()
    if word == "rows":
        return all(row[cells.index(cell)] != value or any(v not in domains[c] for c, v in zip(cells, row)) for row in rule[2])
    if word == "lot":
        return len(told[1]) < len(told[0]) and {v for c in told[0] for v in domains[c]} - {value} <= set(told[1])
    if word == "sums":
        table = told[0]
        led = all(s + v in table[i + 1] for i, c in enumerate(rest) for s in table[i] for v in domains[c])
        return table[0] == (0,) and led and not any(rule[2] <= s + value <= rule[3] for s in table[-1])
    if word == "count":
        surely = len([c for c in rest if set(domains[c]) <= set(rule[2])])
        possibly = len([c for c in rest if set(domains[c]) & set(rule[2])])
        own = int(value in rule[2])
        return told[0] <= surely and told[1] >= possibly and (told[0] + own > rule[4] or told[1] + own < rule[3])
    if word == "below":
        other = rest[0]
        return not any(value < v if cell == rule[1] else v < value for v in domains[other])
    if word == "runs":
        table, lengths = told[0], rule[2]
        led = all(state in table[i + 1] for i, c in enumerate(cells) for ahead in table[i] for v in alone[c]
                  for state in step_of_runs(ahead, v, lengths))
        ends = [(len(lengths), 0)] + ([(len(lengths) - 1, lengths[-1])] if lengths else [])
        return table[0] == ((0, 0),) and led and not set(ends) & set(table[-1])
    sure = {c for c in cells if set(alone[c]) <= set(rule[3])}
    possible = {c for c in cells if set(alone[c]) & set(rule[3])}
    lot = set(told[0])
    apart = not any(a in possible and b in possible and len({a, b} & lot) == 1 for a, b in rule[2])
    return bool(sure & lot) and bool(sure - lot) and apart


def judge_live(domains, rule, cell, value, paper):
    if not has_form(rule, cell, paper):
        return ("form",)
    if paper[0] == "live":
        is_row = paper[1] in rows(domains, rule)
        return None if is_row and paper[1][oracle.cells_of(rule).index(cell)] == value else ("row",)
    return None if shows(domains, rule, cell, value, paper[1], paper[2:]) else ("reason",)


def without(domains, c, v):
    return tuple(tuple(other for other in domain if (at, other) != (c, v)) for at, domain in enumerate(domains))


def left_out(puzzle, dice):
    """The domains behind dead values left out one by one, any one at a time."""
    domains, rules = puzzle
    while True:
        found = [pair for rule in rules for pair in dead(domains, rule)]
        if not found:
            return domains if all(domains) else ((),) * len(domains)
        domains = without(domains, *dice.choice(found))


def dead_strikes(puzzle):
    domains, rules = puzzle
    strikes, quiet, j = [], 0, 0
    while quiet < len(rules):
        found = dead(domains, rules[j])
        strikes += [(j, c, v) for c, v in found]
        for c, v in found:
            domains = without(domains, c, v)
        quiet = 0 if found else quiet + 1
        j = (j + 1) % len(rules)
    return tuple(strikes)


def judge_dead(puzzle, value):
    domains, rules = puzzle

    def is_strike(one):
        if not oracle.is_tuple_of(one, oracle.is_number) or len(one) != 3 or one[0] not in range(len(rules)):
            return False
        return one[1] in oracle.cells_of(rules[one[0]])

    if not oracle.is_tuple_of(value, is_strike):
        return ("form",)
    for k, (j, c, v) in enumerate(value):
        if v not in domains[c]:
            return ("stands", k)
        if (c, v) in live(domains, rules[j]):
            return ("live", k)
        domains = without(domains, c, v)
    left = [("more", j, c, v) for j, rule in enumerate(rules) for c, v in dead(domains, rule)]
    return min(left, default=None)


def made_case(dice, word):
    """Domains and a rule with this word; some domains are (), some have the same values."""
    n = dice.randint(2, 5)
    pool = dice.choice([(0, 1, 2), (0, 1), (1, 2, 3, 4), (0, 1, 5, 99)])
    domains = tuple(() if dice.random() < 0.04 else made.picked(dice, pool, 1) for _ in range(n))
    return domains, made.made_rule(dice, domains, word)


def made_cases(seed, many):
    dice = made.random.Random(seed)
    return [made_case(dice, word) for word in oracle.WORDS for _ in range(many)]
