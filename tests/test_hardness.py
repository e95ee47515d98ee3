"""How hard puzzles are, and puzzles made ([9.4], [9.5])."""

import unittest

import made
import oracle
import oracle_maker
from cases import FOUR, ROW
from test_maker import CASES, GOALS, ODD, ONE, PUZZLE, SQUARE, TURN
from toldreasons.hardness import harder, hardest_clues, hardness, made_puzzle
from toldreasons.maker import judge_least, made_all

APART = (((0, 1, 2),) * 2, (("below", 0, 1), ("sum", (0, 1), 2, 2)))


class HardnessTest(unittest.TestCase):
    def test_by_hand(self):
        self.assertIsNone(hardness(PUZZLE))
        self.assertIsNone(hardness(FOUR))
        self.assertIsNone(hardness(made.EMPTY))
        self.assertEqual(hardness((((1,),), ())), (1, 0))
        self.assertEqual(hardness((((1,), (2,)), (("below", 0, 1),))), (1, 0))
        self.assertEqual(hardness(ROW), (1, 2))
        self.assertEqual(hardness(APART)[0], 2)

    def test_rounds_are_those_of_parts_of_one_pair(self):
        for puzzle in [puzzle for puzzle, answer in CASES] + made.made_puzzles(95, 60, most_cells=3):
            self.assertEqual(hardness(puzzle), oracle_maker.hardness(puzzle))

    def test_with_clues(self):
        for puzzle, answer in CASES[:40]:
            for clues in oracle_maker.lots(answer)[-6:]:
                given = oracle_maker.with_clues(puzzle, clues)
                self.assertEqual(hardness(given), oracle_maker.hardness(given))

    def test_harder(self):
        for one, other, told in ((None, (3, 9), True), ((3, 9), None, False), (None, None, False), ((2, 1), (1, 9), True), ((1, 9), (2, 1), False),
                                 ((1, 2), (1, 2), False), ((1, 3), (1, 2), True), ((1, 2), (1, 3), False), ((1, 0), (1, 0), False)):
            self.assertIs(harder(one, other), told, (one, other))


class HardestCluesTest(unittest.TestCase):
    def test_by_hand(self):
        self.assertEqual(hardest_clues(PUZZLE, (0, 1, 2)), ((1, 1),))
        self.assertEqual(hardest_clues(ROW, (0, 1, 2)), ())
        # Both clues are as hard as one another: the least by cells.
        self.assertEqual(hardest_clues(made.FREE, (2, 1)), ((0, 2),))
        self.assertEqual(made_all(TURN, (2, 1, 0), ONE), (((1, 1),), ((2, 0),)))
        self.assertEqual([hardness(oracle_maker.with_clues(TURN, clues)) for clues in (((1, 1),), ((2, 0),))], [(1, 1), (1, 2)])
        self.assertEqual(hardest_clues(TURN, (2, 1, 0)), ((2, 0),))

    def test_as_the_oracle_tells(self):
        for puzzle, answer in CASES:
            clues = hardest_clues(puzzle, answer)
            self.assertEqual(clues, oracle_maker.hardest_clues(puzzle, answer), (puzzle, answer))
            self.assertIsNone(judge_least(puzzle, answer, ONE, clues))


class MadePuzzleTest(unittest.TestCase):
    def test_by_hand(self):
        self.assertEqual(made_puzzle(PUZZLE, (0, 1, 2), ONE), (((2, 2),), (0, 1, 2), (1, 2)))
        self.assertEqual(made_puzzle(ROW, (2, 1, 0), ("strength", 1)), ((), (0, 1, 2), (1, 2)))
        self.assertEqual(made_puzzle(made.FREE, (1, 0), ONE)[:2], (((0, 1),), (1, 2)))

    def test_none_without_an_answer(self):
        for puzzle in (made.EMPTY, made.TRIO, (((),), ())):
            for goal in GOALS:
                self.assertIsNone(made_puzzle(puzzle, tuple(range(len(puzzle[0]))), goal))

    def test_as_the_oracle_tells(self):
        for puzzle in [puzzle for puzzle, answer in CASES] + [SQUARE, ODD]:
            first = oracle.answers(puzzle)[0]
            order = tuple(reversed(range(len(first))))
            for goal in GOALS[:3]:
                clues, answer, told = made_puzzle(puzzle, order, goal)
                self.assertEqual(answer, first)
                self.assertEqual(clues, oracle_maker.least_clues(puzzle, first, order, goal))
                self.assertEqual(told, oracle_maker.hardness(oracle_maker.with_clues(puzzle, clues)))
                if goal != ONE:
                    self.assertLessEqual(told[0], goal[1])


if __name__ == "__main__":
    unittest.main()
