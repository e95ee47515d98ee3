"""Puzzles, their parts, their questions, and the fillings of these."""

from itertools import combinations

from toldreasons.rules import are_values, cells_of, fits, is_cell, is_rule, is_whole, values_under


def judge_puzzle(value):
    """None if any value is a puzzle, else its first fault."""
    if not isinstance(value, tuple) or len(value) != 2:
        return ("form",)
    domains, rules = value
    if not isinstance(domains, tuple) or not isinstance(rules, tuple) or not 1 <= len(domains) <= 16:
        return ("form",)
    for c, domain in enumerate(domains):
        if not are_values(domain):
            return ("domain", c)
    for j, rule in enumerate(rules):
        if not is_rule(rule, len(domains)):
            return ("rule", j)
    return None


def is_puzzle(value):
    """Whether any value is a puzzle."""
    return judge_puzzle(value) is None


def _stands_in(domain, value):
    # Python's == takes True for 1, so "in" alone is not enough.
    return is_whole(value) and value in domain


def first_broken(puzzle, values):
    """None if a tuple of a value for each cell is an answer, else the first cell or rule that it breaks."""
    domains, rules = puzzle
    for c, domain in enumerate(domains):
        if not _stands_in(domain, values[c]):
            return ("cell", c)
    for j, rule in enumerate(rules):
        if not fits(rule, values_under(rule, values)):
            return ("rule", j)
    return None


def is_answer(puzzle, value):
    """Whether any value is an answer of the puzzle."""
    if not isinstance(value, tuple) or len(value) != len(puzzle[0]):
        return False
    return first_broken(puzzle, value) is None


def _is_pair(domains, value):
    if not isinstance(value, tuple) or len(value) != 2:
        return False
    return is_cell(value[0], len(domains)) and _stands_in(domains[value[0]], value[1])


def is_part(puzzle, value):
    """Whether any value is a part of the puzzle."""
    if not isinstance(value, tuple) or not all(_is_pair(puzzle[0], pair) for pair in value):
        return False
    return all(one[0] < other[0] for one, other in zip(value, value[1:]))


def is_question(puzzle, value):
    """Whether any value is a question of the puzzle."""
    if not isinstance(value, tuple) or len(value) != 2:
        return False
    if value[0] == "cell":
        return is_cell(value[1], len(puzzle[0]))
    return value[0] == "rule" and is_whole(value[1]) and 0 <= value[1] < len(puzzle[1])


def do_agree(f, t):
    """Whether no cell has two unlike values in two parts."""
    given = dict(f)
    return all(given.get(cell, value) == value for cell, value in t)


def both_of(f, t):
    """The part that has the pairs of both of two parts that agree."""
    return tuple(sorted(set(f) | set(t)))


def lies_in(f, t):
    """Whether each pair of the part f is in the part t."""
    return all(pair in t for pair in f)


def pieces_of(f, k):
    """All parts of at most k pairs that lie in f, those with fewer pairs first, else ascending."""
    pairs = list(f)
    return tuple([piece for size in range(min(k, len(f)) + 1) for piece in combinations(pairs, size)])


def value_at(f, cell):
    """The value of a cell in a part, None if it has none."""
    for place, value in f:
        if place == cell:
            return value
    return None


def part_of(values, cells):
    """The part that has, of the values of all cells, those of the cells that are told."""
    return tuple([(cell, values[cell]) for cell in sorted(set(cells))])


def questions(puzzle):
    """All questions of the puzzle, cells first."""
    cells = [("cell", c) for c in range(len(puzzle[0]))]
    return tuple(cells + [("rule", j) for j in range(len(puzzle[1]))])


def asked_cells(puzzle, question):
    """The ascending cells of a question."""
    word, number = question
    if word == "cell":
        return (number,)
    return tuple(sorted(cells_of(puzzle[1][number])))


def _choices(domains):
    """All tuples of one value of each of the domains, ascending."""
    # One empty domain leaves nothing, however many choices the others would make.
    if () in domains:
        return []
    chosen = [()]
    for domain in domains:
        chosen = [ahead + (value,) for ahead in chosen for value in domain]
    return chosen


def _rows_within(rule, domains):
    """The rows of a table whose values are all in the domains, those of its cells in its own order."""
    return [row for row in rule[2] if all([value in domain for value, domain in zip(row, domains)])]


def rule_rows(domains, rule):
    """All tuples of values of the rule's cells, in its own order, that their domains let and that fit, ascending."""
    own = [domains[cell] for cell in cells_of(rule)]
    # A table may have thousands of rows: to look for each choice among them would take long.
    if rule[0] == "table":
        return _rows_within(rule, own)
    return [values for values in _choices(own) if fits(rule, values)]


def fillings(puzzle, question):
    """The ascending fillings of a question."""
    word, number = question
    if word == "cell":
        return tuple([((number, value),) for value in puzzle[0][number]])
    rule = puzzle[1][number]
    cells = cells_of(rule)
    found = [tuple(sorted(zip(cells, row))) for row in rule_rows(puzzle[0], rule)]
    return tuple(sorted(found))


def agreeing(puzzle, f, question):
    """The ascending fillings of a question that agree with the part f."""
    return tuple([t for t in fillings(puzzle, question) if do_agree(f, t)])


def cut_to(puzzle, f):
    """The puzzle in which each cell of the part f has its one value alone."""
    given = {cell: (value,) for cell, value in f}
    domains, rules = puzzle
    return (tuple([given.get(c, domain) for c, domain in enumerate(domains)]), rules)


def narrowed(puzzle, kept):
    """The puzzle whose domains have only those of their values that are kept."""
    domains, rules = puzzle
    left = [tuple([value for value in domain if value in kept[c]]) for c, domain in enumerate(domains)]
    return (tuple(left), rules)


def with_rules(puzzle, rules):
    """The puzzle with more rules behind its own."""
    return (puzzle[0], puzzle[1] + tuple(rules))
