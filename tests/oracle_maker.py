"""Clues, goals and hardness, by the words of the document ([9.1] to [9.5]): slow and plain, as oracle.py."""

from functools import lru_cache
from itertools import combinations

import oracle
import oracle_game


def with_clues(puzzle, clues):
    given = dict(clues)
    return (tuple((given[c],) if c in given else domain for c, domain in enumerate(puzzle[0])), puzzle[1])


@lru_cache(None)
def reaches(puzzle, clues, goal):
    given = with_clues(puzzle, clues)
    if goal == ("one",):
        return len(oracle.answers(given)) == 1
    return oracle_game.verdict(given, oracle.rounds(given, goal[1]))[0] == "solved"


def lots(answer):
    """The clues at all lots of cells, those with fewer cells first, else by their cells."""
    pairs = list(enumerate(answer))
    return [lot for size in range(len(pairs) + 1) for lot in combinations(pairs, size)]


def without(clues, cell):
    return tuple(clue for clue in clues if clue[0] != cell)


def least_clues(puzzle, answer, order, goal):
    clues = tuple(enumerate(answer))
    for cell in order:
        if reaches(puzzle, without(clues, cell), goal):
            clues = without(clues, cell)
    return clues


def judge_least(puzzle, answer, goal, value):
    def is_pair(pair):
        return oracle.is_tuple_of(pair, oracle.is_number) and pair in tuple(enumerate(answer))

    if not oracle.is_tuple_of(value, is_pair) or not oracle.rises(value):
        return ("form",)
    if not reaches(puzzle, value, goal):
        return ("reach",)
    spare = [cell for cell, told in value if reaches(puzzle, without(value, cell), goal)]
    return ("spare", spare[0]) if spare else None


def needed_for(puzzle, clues, cell):
    own = [values for values in oracle.answers(puzzle) if all(values[c] == v for c, v in clues)]
    rest = without(clues, cell)
    found = [values for values in oracle.answers(puzzle) if values not in own and all(values[c] == v for c, v in rest)]
    return min(found, default=None)


def difference_lots(puzzle, answer):
    found = {tuple(c for c in range(len(answer)) if values[c] != answer[c]) for values in oracle.answers(puzzle)} - {()}
    return tuple(sorted(lot for lot in found if not any(set(other) < set(lot) for other in found)))


def all_reaching(puzzle, answer, goal):
    return [clues for clues in lots(answer) if reaches(puzzle, clues, goal)]


def made_all(puzzle, answer, goal):
    found = all_reaching(puzzle, answer, goal)
    return tuple(sorted(clues for clues in found if not any(without(clues, cell) in found for cell, told in clues)))


def hardness(puzzle):
    k = oracle_game.least_strength(puzzle, "solved")
    if k is None:
        return None
    rounds = oracle.rounds(puzzle, k)
    return (k, max((rounds[part] for part in rounds if len(part) == 1), default=0))


def hardest_clues(puzzle, answer):
    found = made_all(puzzle, answer, ("one",))
    told = {clues: hardness(with_clues(puzzle, clues)) for clues in found}
    return min(clues for clues in found if told[clues] == max(told.values()))
