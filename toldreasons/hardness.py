"""How hard puzzles are, and puzzles made with the hardness that they have."""

from toldreasons.answers import first_answer
from toldreasons.maker import least_clues, made_all
from toldreasons.puzzles import cut_to
from toldreasons.reasons import told_reasons
from toldreasons.strength import least_solving


def hardness(puzzle):
    """The least strength that solves a puzzle, and the greatest round of a value that it strikes; None if none does."""
    k = least_solving(puzzle)
    if k is None:
        return None
    reasons = told_reasons(puzzle, k)
    return (k, max([reason[0] for part, reason in reasons.items() if len(part) == 1], default=0))


def harder(one, other):
    """Whether the first of two such results is the harder one."""
    if one is None or other is None:
        return one is None and other is not None
    return one > other


def hardest_clues(puzzle, answer):
    """Of all clues of the answer that reach just one answer, none to be left out, the first of the hardest ones."""
    found = made_all(puzzle, answer, ("one",))
    hardest = found[0]
    greatest = hardness(cut_to(puzzle, hardest))
    for clues in found[1:]:
        told = hardness(cut_to(puzzle, clues))
        if harder(told, greatest):
            hardest = clues
            greatest = told
    return hardest


def made_puzzle(puzzle, order, goal):
    """Least clues of the first answer, this answer, and how hard the puzzle with them is; None without an answer."""
    answer = first_answer(puzzle)
    if answer is None:
        return None
    clues = least_clues(puzzle, answer, order, goal)
    return (clues, answer, hardness(cut_to(puzzle, clues)))
