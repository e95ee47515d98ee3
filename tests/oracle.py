"""What the document says, said again as plainly and slowly as can be: the tests compare the program with it."""

from itertools import combinations, groupby, product

WORDS = ("table", "unlike", "sum", "count", "below", "runs", "joined")


def is_number(value):
    return type(value) is int


def is_value(value):
    return type(value) is int and 0 <= value <= 99


def is_tuple_of(value, is_member):
    return type(value) is tuple and all(is_member(member) for member in value)


def rises(members):
    return list(members) == sorted(set(members))


def is_domain(value):
    return is_tuple_of(value, is_value) and rises(value)


def cells_of(rule):
    return (rule[1], rule[2]) if rule[0] == "below" else rule[1]


def is_span(low, high):
    return is_number(low) and is_number(high) and 0 <= low <= high


def is_rule(rule, n):
    if type(rule) is not tuple or not rule or type(rule[0]) is not str or rule[0] not in WORDS:
        return False
    word = rule[0]
    if len(rule) != dict(zip(WORDS, (3, 2, 4, 5, 3, 3, 4)))[word]:
        return False
    cells = cells_of(rule)
    if not is_tuple_of(cells, is_number) or not cells or len(set(cells)) < len(cells):
        return False
    if min(cells) < 0 or max(cells) >= n:
        return False
    if word == "table":
        return is_tuple_of(rule[2], lambda row: is_tuple_of(row, is_value) and len(row) == len(cells)) and rises(rule[2])
    if word == "sum":
        return is_span(rule[2], rule[3])
    if word == "count":
        return is_domain(rule[2]) and is_span(rule[3], rule[4])
    if word == "runs":
        return is_tuple_of(rule[2], lambda length: is_number(length) and length >= 1)
    if word == "joined":
        if not is_tuple_of(rule[2], lambda tie: is_tuple_of(tie, is_number) and len(tie) == 2):
            return False
        if not all(a in cells and b in cells and a < b for a, b in rule[2]):
            return False
        return rises(rule[2]) and is_domain(rule[3])
    return True


def judge_puzzle(value):
    if type(value) is not tuple or len(value) != 2 or type(value[0]) is not tuple or type(value[1]) is not tuple:
        return ("form",)
    if not 1 <= len(value[0]) <= 16:
        return ("form",)
    faults = [("domain", c) for c, domain in enumerate(value[0]) if not is_domain(domain)]
    faults += [("rule", j) for j, rule in enumerate(value[1]) if not is_rule(rule, len(value[0]))]
    return faults[0] if faults else None


def are_joined(marked, ties):
    lots = [{cell} for cell in marked]
    for a, b in ties:
        if a in marked and b in marked:
            touched = [lot for lot in lots if a in lot or b in lot]
            lots = [lot for lot in lots if lot not in touched] + [set().union(*touched)]
    return len(lots) <= 1


def fits(rule, values):
    word = rule[0]
    if word == "table":
        return any(row == values for row in rule[2])
    if word == "unlike":
        return not any(one == other for one, other in combinations(values, 2))
    if word == "sum":
        return sum(values) in range(rule[2], rule[3] + 1)
    if word == "count":
        return sum(value in rule[2] for value in values) in range(rule[3], rule[4] + 1)
    if word == "below":
        return values[0] < values[1]
    if word == "runs":
        return [len(list(run)) for marked, run in groupby(values, bool) if marked] == list(rule[2])
    given = dict(zip(rule[1], values))
    return are_joined([cell for cell in rule[1] if given[cell] in rule[3]], rule[2])


def fits_all(puzzle, values):
    return all(fits(rule, tuple(values[c] for c in cells_of(rule))) for rule in puzzle[1])


def answers(puzzle):
    return tuple(values for values in product(*puzzle[0]) if fits_all(puzzle, values))


def first_broken(puzzle, values):
    faults = [("cell", c) for c, value in enumerate(values) if value not in puzzle[0][c]]
    for j, rule in enumerate(puzzle[1]):
        if not fits(rule, tuple(values[c] for c in cells_of(rule))):
            faults.append(("rule", j))
    return faults[0] if faults else None


def judge_answer(puzzle, value):
    if not is_tuple_of(value, is_number) or len(value) != len(puzzle[0]):
        return ("form",)
    return first_broken(puzzle, value)


def is_part(puzzle, value):
    if not is_tuple_of(value, lambda pair: is_tuple_of(pair, is_number) and len(pair) == 2):
        return False
    if not all(cell in range(len(puzzle[0])) and number in puzzle[0][cell] for cell, number in value):
        return False
    return rises([cell for cell, number in value])


def parts(puzzle, k):
    pairs = [(c, value) for c, domain in enumerate(puzzle[0]) for value in domain]
    found = [pick for size in range(k + 1) for pick in combinations(pairs, size)]
    return tuple(sorted(pick for pick in found if len({cell for cell, value in pick}) == len(pick)))


def pieces(f, k):
    return tuple(piece for size in range(k + 1) for piece in combinations(f, size))


def lies_in(f, t):
    return set(f) <= set(t)


def agree(f, t):
    both = set(f) | set(t)
    return len({cell for cell, value in both}) == len(both)


def both(f, t):
    return tuple(sorted({**dict(f), **dict(t)}.items()))


def questions(puzzle):
    return tuple([("cell", c) for c in range(len(puzzle[0]))] + [("rule", j) for j in range(len(puzzle[1]))])


def is_question(puzzle, value):
    return is_tuple_of(value, lambda member: type(member) in (str, int)) and value in questions(puzzle)


def asked_cells(puzzle, question):
    return (question[1],) if question[0] == "cell" else tuple(sorted(cells_of(puzzle[1][question[1]])))


def fillings(puzzle, question):
    cells = asked_cells(puzzle, question)
    found = [dict(zip(cells, values)) for values in product(*(puzzle[0][c] for c in cells))]
    if question[0] == "rule":
        rule = puzzle[1][question[1]]
        found = [given for given in found if fits(rule, tuple(given[c] for c in cells_of(rule)))]
    return tuple(sorted(tuple(sorted(given.items())) for given in found))


def agreeing(puzzle, f, question):
    return tuple(t for t in fillings(puzzle, question) if agree(f, t))


def table_of_unions(puzzle, f):
    """For each question the parts f + t of its agreeing fillings t."""
    return [[both(f, t) for t in agreeing(puzzle, f, question)] for question in questions(puzzle)]


def rounds(puzzle, k):
    """The dict of the rounds of all no-goods, by the words of [4.4]."""
    unions = {f: table_of_unions(puzzle, f) for f in parts(puzzle, k)}
    found = {}
    number = 1
    while True:
        here = [
            f for f in unions if f not in found
            and any(all(any(lies_in(g, union) for g in found) for union in row) for row in unions[f])
        ]
        if not here:
            return found
        found.update({f: number for f in here})
        number += 1


def judge_chain(puzzle, k, value):
    if type(value) is not tuple:
        return ("form",)
    for i, step in enumerate(value):
        if type(step) is not tuple or len(step) != 3:
            return ("form", i)
        part, question, uses = step
        if not is_part(puzzle, part) or len(part) > k or not is_question(puzzle, question):
            return ("form", i)
        if not is_tuple_of(uses, is_number) or not all(use in range(i) for use in uses):
            return ("form", i)
        found = agreeing(puzzle, part, question)
        if len(found) != len(uses):
            return ("uses", i)
        for j, t in enumerate(found):
            if not lies_in(value[uses[j]][0], both(part, t)):
                return ("lies", i, j)
    return None


def judge_book(puzzle, k, value):
    if not is_tuple_of(value, lambda part: is_part(puzzle, part) and len(part) <= k) or not rises(value):
        return ("form",)
    for part in value:
        for piece in sorted(pieces(part, k)):
            if piece not in value:
                return ("within", part, piece)
    for part in value:
        for question, row in zip(questions(puzzle), table_of_unions(puzzle, part)):
            if not any(all(piece in value for piece in pieces(union, k)) for union in row):
                return ("question", part, question)
    return None


def tree_at(puzzle, part):
    for c, domain in enumerate(puzzle[0]):
        if domain == ():
            return ("empty", c)
    for j in range(len(puzzle[1])):
        if not agreeing(puzzle, part, ("rule", j)):
            return ("clash", j)
    left = [c for c in range(len(puzzle[0])) if c not in dict(part)]
    if not left:
        return ("answer",)
    cell = left[0]
    return ("cell", cell, tuple(tree_at(puzzle, both(part, ((cell, value),))) for value in puzzle[0][cell]))


def is_node(puzzle, tree):
    if type(tree) is not tuple or not tree or type(tree[0]) is not str:
        return False
    if tree[0] == "answer":
        return len(tree) == 1
    if tree[0] == "clash":
        return len(tree) == 2 and is_number(tree[1]) and tree[1] in range(len(puzzle[1]))
    if tree[0] == "empty":
        return len(tree) == 2 and is_number(tree[1]) and tree[1] in range(len(puzzle[0]))
    if tree[0] == "cell":
        is_cell = len(tree) == 3 and is_number(tree[1]) and tree[1] in range(len(puzzle[0]))
        return is_cell and type(tree[2]) is tuple
    return False


def judge_tree(puzzle, tree, part=(), path=()):
    if not is_node(puzzle, tree):
        return ("form", path)
    word, given = tree[0], dict(part)
    if word == "clash":
        return ("clash", path) if agreeing(puzzle, part, ("rule", tree[1])) else None
    if word == "empty":
        return ("empty", path) if puzzle[0][tree[1]] else None
    if word == "answer":
        whole = len(part) == len(puzzle[0])
        return None if whole and fits_all(puzzle, [given[c] for c in sorted(given)]) else ("answer", path)
    if tree[1] in given or len(tree[2]) != len(puzzle[0][tree[1]]):
        return ("cell", path)
    for value, beneath in zip(puzzle[0][tree[1]], tree[2]):
        fault = judge_tree(puzzle, beneath, both(part, ((tree[1], value),)), path + (value,))
        if fault:
            return fault
    return None
