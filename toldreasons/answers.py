"""Answers by trying, and how those of puzzles hang together."""

from toldreasons.puzzles import cut_to, first_broken, part_of
from toldreasons.rules import cells_of, fits, is_whole, values_under


def _row_lookup(rule):
    """The rows of a table, to be found at once however many they are; None of other rules."""
    if rule[0] != "table":
        return None
    return {row: True for row in rule[2]}


def _lets(rule, rows, values):
    """Whether the rule fits, given values for all cells up to its last one."""
    under = values_under(rule, values)
    if rows is None:
        return fits(rule, under)
    return under in rows


def _let_by_all(due, values):
    return all(_lets(rule, rows, values) for rule, rows in due)


def answers(puzzle):
    """The ascending tuple of all answers."""
    domains, rules = puzzle
    # One empty domain leaves nothing, however much there is to try ahead of it.
    if () in domains:
        return ()
    found = [()]
    for c, domain in enumerate(domains):
        # Each rule is asked as soon as its last cell has a value, so that less is tried.
        due = [(rule, _row_lookup(rule)) for rule in rules if max(cells_of(rule)) == c]
        tried = [ahead + (value,) for ahead in found for value in domain]
        found = [values for values in tried if _let_by_all(due, values)]
    return tuple(found)


def answers_with(puzzle, part):
    """The ascending tuple of the answers in which the part lies."""
    return answers(cut_to(puzzle, part))


def answer_count(puzzle):
    """How many answers there are."""
    return len(answers(puzzle))


def first_answer(puzzle):
    """The least answer, None without one."""
    found = answers(puzzle)
    if len(found) == 0:
        return None
    return found[0]


def settled(puzzle):
    """The two least answers, or as many of them as there are."""
    return answers(puzzle)[:2]


def judge_answer(puzzle, value):
    """None if any value is an answer, else its first fault."""
    if not isinstance(value, tuple) or len(value) != len(puzzle[0]):
        return ("form",)
    if not all(is_whole(member) for member in value):
        return ("form",)
    return first_broken(puzzle, value)


def without_rule(puzzle, j):
    """The puzzle without its rule number j."""
    domains, rules = puzzle
    return (domains, rules[:j] + rules[j + 1:])


def joint(one, other):
    """The puzzle with the rules of two puzzles with the same domains."""
    return (one[0], one[1] + other[1])


def _moved(rule, by):
    """The rule with its cells numbered so many behind."""
    word = rule[0]
    if word == "below":
        return ("below", rule[1] + by, rule[2] + by)
    cells = tuple([cell + by for cell in rule[1]])
    if word == "joined":
        return ("joined", cells, tuple([(a + by, b + by) for a, b in rule[2]]), rule[3])
    return (word, cells) + rule[2:]


def beside(one, other):
    """The puzzle of two puzzles next to one another, the cells of the second numbered behind."""
    by = len(one[0])
    return (one[0] + other[0], one[1] + tuple([_moved(rule, by) for rule in other[1]]))


def free_cells(puzzle, answer):
    """The ascending cells at which some other answer has another value."""
    found = answers(puzzle)
    return tuple([c for c, value in enumerate(answer) if any([other[c] != value for other in found])])


def answer_values(puzzle, c):
    """The ascending values that answers have at a cell."""
    return tuple(sorted(set([values[c] for values in answers(puzzle)])))


def common_part(puzzle):
    """The greatest part that lies in all answers, None if there is no answer."""
    least = first_answer(puzzle)
    if least is None:
        return None
    free = free_cells(puzzle, least)
    return part_of(least, [c for c in range(len(least)) if c not in free])


def is_forced(puzzle, part):
    """Whether the part lies in all answers."""
    return len(answers_with(puzzle, part)) == answer_count(puzzle)
