"""Trees: papers that tell all answers of a puzzle."""

from toldreasons.puzzles import fillings, value_at
from toldreasons.rules import is_cell, is_whole


def _rule_fillings(puzzle):
    """The fillings of each rule: at () all of them agree."""
    return [fillings(puzzle, ("rule", j)) for j in range(len(puzzle[1]))]


def _agreeing_at(agreed, cell, value):
    """Of fillings of one rule those that agree with a value at a cell."""
    if len(agreed) == 0 or value_at(agreed[0], cell) is None:
        return agreed
    return [t for t in agreed if value_at(t, cell) == value]


def _left_at(left, cell, value):
    """For each rule the fillings that still agree with a part, with a value at a cell put to it."""
    return [_agreeing_at(agreed, cell, value) for agreed in left]


def _grown(domains, cell, left):
    """The tree for a part that has all cells ahead of this one; left are the fillings that agree."""
    for j, agreed in enumerate(left):
        if len(agreed) == 0:
            return ("clash", j)
    if cell == len(domains):
        return ("answer",)
    trees = [_grown(domains, cell + 1, _left_at(left, cell, value)) for value in domains[cell]]
    return ("cell", cell, tuple(trees))


def tree_of(puzzle):
    """The tree that asks cells ascending, and tells the first clash."""
    domains = puzzle[0]
    if () in domains:
        return ("empty", domains.index(()))
    return _grown(domains, 0, _rule_fillings(puzzle))


def _is_node(puzzle, value):
    """Whether any value has one of the forms of a tree, whatever stands beneath it."""
    if not isinstance(value, tuple) or len(value) == 0:
        return False
    domains, rules = puzzle
    word = value[0]
    if word == "answer":
        return len(value) == 1
    if word == "clash":
        return len(value) == 2 and is_whole(value[1]) and 0 <= value[1] < len(rules)
    if word == "empty":
        return len(value) == 2 and is_cell(value[1], len(domains))
    return word == "cell" and len(value) == 3 and is_cell(value[1], len(domains)) and isinstance(value[2], tuple)


def _is_told_answer(puzzle, given, left):
    # Values that come of the domains are an answer if a filling of each rule still agrees with them.
    return len(given) == len(puzzle[0]) and all(len(agreed) > 0 for agreed in left)


def _node_fault(puzzle, tree, given, left):
    """The word for what is wrong at this place alone, None if nothing is; given is the part, as a dict."""
    if not _is_node(puzzle, tree):
        return "form"
    word = tree[0]
    if word == "answer":
        is_right = _is_told_answer(puzzle, given, left)
    elif word == "clash":
        is_right = len(left[tree[1]]) == 0
    elif word == "empty":
        is_right = puzzle[0][tree[1]] == ()
    else:
        is_right = tree[1] not in given and len(tree[2]) == len(puzzle[0][tree[1]])
    if is_right:
        return None
    return word


def _tree_fault(puzzle, tree, given, left):
    """The first fault of this tree, its path told from here; given tells the values by their cells."""
    word = _node_fault(puzzle, tree, given, left)
    if word is not None:
        return (word, ())
    if tree[0] != "cell":
        return None
    cell = tree[1]
    for value, beneath in zip(puzzle[0][cell], tree[2]):
        fault = _tree_fault(puzzle, beneath, {**given, cell: value}, _left_at(left, cell, value))
        if fault is not None:
            return (fault[0], (value,) + fault[1])
    return None


def judge_tree(puzzle, value):
    """None if any value is a tree of the puzzle, else (word, path) of the first place that is none."""
    return _tree_fault(puzzle, value, {}, _rule_fillings(puzzle))


def _answers_beneath(puzzle, tree, given):
    """The answers at the leaves, for the values that are given by their cells."""
    if tree[0] == "answer":
        return [tuple([given[c] for c in range(len(puzzle[0]))])]
    if tree[0] != "cell":
        return []
    cell = tree[1]
    found = []
    for value, beneath in zip(puzzle[0][cell], tree[2]):
        found.extend(_answers_beneath(puzzle, beneath, {**given, cell: value}))
    return found


def told_answers(puzzle, tree):
    """The ascending answers that a tree of the puzzle tells at its leaves."""
    return tuple(sorted(_answers_beneath(puzzle, tree, {})))


def leaf_counts(tree):
    """How many leaves "clash", "empty" and "answer" a tree has."""
    if tree[0] != "cell":
        return tuple([int(tree[0] == word) for word in ("clash", "empty", "answer")])
    counts = [leaf_counts(beneath) for beneath in tree[2]]
    return tuple([sum([count[at] for count in counts]) for at in range(3)])


def tree_depth(tree):
    """The greatest number of "cell" on a way down."""
    if tree[0] != "cell":
        return 0
    return 1 + max([tree_depth(beneath) for beneath in tree[2]], default=0)
