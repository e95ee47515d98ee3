"""Puzzles made: clues of an answer that reach a goal, and none of which can be left out."""

from itertools import combinations

from toldreasons.answers import answer_count, answers, answers_with
from toldreasons.puzzles import cut_to, is_part, part_of, value_at
from toldreasons.strength import verdict


def clues_of(answer):
    """The clues of all cells of an answer."""
    return tuple(list(enumerate(answer)))


def reaches(puzzle, clues, goal):
    """Whether the puzzle with the clues reaches the goal."""
    given = cut_to(puzzle, clues)
    # What a strength solves has just one answer, and that is told quicker.
    if answer_count(given) != 1:
        return False
    return goal[0] == "one" or verdict(given, goal[1])[0] == "solved"


def _without(clues, cell):
    return tuple([clue for clue in clues if clue[0] != cell])


def least_clues(puzzle, answer, order, goal):
    """The clues of an answer that are left when, cell by cell, those are left out that are not needed for the goal."""
    clues = clues_of(answer)
    for cell in order:
        fewer = _without(clues, cell)
        if reaches(puzzle, fewer, goal):
            clues = fewer
    return clues


def judge_least(puzzle, answer, goal, value):
    """None if any value is clues of the answer that reach the goal, none to be left out, else its first fault."""
    if not is_part(puzzle, value) or not all([answer[cell] == told for cell, told in value]):
        return ("form",)
    if not reaches(puzzle, value, goal):
        return ("reach",)
    for cell, _ in value:
        if reaches(puzzle, _without(value, cell), goal):
            return ("spare", cell)
    return None


def needed_for(puzzle, clues, cell):
    """The least other answer that has all clues but that of the cell, None if there is none."""
    own = value_at(clues, cell)
    found = [values for values in answers_with(puzzle, _without(clues, cell)) if values[cell] != own]
    return found[0] if found else None


def _holds_other(lot, lots):
    """Whether another one of the lots is within the lot."""
    return any([other != lot and all([c in lot for c in other]) for other in lots])


def difference_lots(puzzle, answer):
    """The ascending lots of cells at which other answers are unlike this one, but those that hold another lot."""
    lots = {}
    for other in answers(puzzle):
        lots[tuple([c for c, value in enumerate(answer) if other[c] != value])] = True
    found = sorted([lot for lot in lots if len(lot) > 0])
    return tuple([lot for lot in found if not _holds_other(lot, found)])


def fewest_clues(puzzle, answer, goal):
    """The clues of the answer with the fewest cells that reach the goal, of these the least by their cells."""
    cells = list(range(len(answer)))
    for size in range(len(answer) + 1):
        for lot in combinations(cells, size):
            if reaches(puzzle, part_of(answer, lot), goal):
                return part_of(answer, lot)
    return clues_of(answer)


def sure_clues(puzzle, answer, goal):
    """The ascending cells whose clues stand in all clues of the answer that reach the goal."""
    clues = clues_of(answer)
    return tuple([cell for cell in range(len(answer)) if not reaches(puzzle, _without(clues, cell), goal)])


def made_all(puzzle, answer, goal):
    """The ascending tuple of all clues of the answer that reach the goal, and none of which can be left out."""
    found = []
    cells = list(range(len(answer)))
    for size in range(len(answer) + 1):
        for lot in combinations(cells, size):
            # What holds least clues reaches the goal, too, but has some to spare.
            held = any([all([c in lot for c in other]) for other in found])
            if not held and reaches(puzzle, part_of(answer, lot), goal):
                found.append(lot)
    return tuple(sorted([part_of(answer, lot) for lot in found]))
