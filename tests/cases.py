"""Puzzles with strengths, and their rounds by the oracle, for the tests of reasons and books."""

import made
import oracle

CASES = [(puzzle, k) for puzzle in made.PUZZLES[:6] for k in (1, 2, 3)] + [(made.KINDS, 1), (made.KINDS, 2)]
CASES += [(puzzle, 1 + at % 3) for at, puzzle in enumerate(made.made_puzzles(31, 90))]
ROUNDS = [(puzzle, k, oracle.rounds(puzzle, k)) for puzzle, k in CASES]

# Three cells in a row, each less than the one behind it, of three values: one answer, told in several rounds.
ROW = (((0, 1, 2),) * 3, (("below", 0, 1), ("below", 1, 2)))
# Four cells of three values, no two alike: reasons that hold one cell alone do not tell that this cannot be.
FOUR = (((1, 2, 3),) * 4, tuple(("unlike", (a, b)) for a in range(4) for b in range(a + 1, 4)))
