"""Clues and puzzles made ([9.1] to [9.3], [9.5])."""

import random
import unittest
from itertools import permutations

import made
import oracle
import oracle_maker
from cases import ROW
from toldreasons.maker import (
    clues_of, difference_lots, fewest_clues, judge_least, least_clues, made_all, needed_for, reaches, sure_clues,
)

PUZZLE = (((0, 1, 2),) * 3, (("unlike", (0, 1)), ("unlike", (1, 2)), ("unlike", (0, 2)), ("below", 0, 1)))
SQUARE = (((1, 2, 3),) * 4, (("unlike", (0, 1)), ("unlike", (2, 3)), ("unlike", (0, 2)), ("unlike", (1, 3))))
# Parities, of which reasons that hold one cell tell nothing.
EVEN = ((0, 0, 0), (0, 1, 1), (1, 0, 1), (1, 1, 0))
ODD = (((0, 1),) * 4, (("table", (0, 1, 2), EVEN), ("table", (1, 2, 3), EVEN), ("sum", (0, 1, 2, 3), 2, 3)))
# Of the least clues of (2, 1, 0) those of cell 2 are harder than those of cell 1.
TURN = (((0, 1, 2),) * 3, (("sum", (1, 2), 0, 2), ("unlike", (1, 2, 0)), ("below", 1, 0)))
ONE = ("one",)
GOALS = (ONE, ("strength", 1), ("strength", 2), ("strength", 3))
DICE = random.Random(91)
CASES = [(puzzle, answer) for puzzle in (PUZZLE, SQUARE, ODD, TURN, ROW, made.FREE, made.BARE, made.TOLD, made.KINDS) + tuple(made.made_puzzles(92, 60))
         for answer in made.some(oracle.answers(puzzle), 2, DICE)]


class GoalsTest(unittest.TestCase):
    def test_clues_of(self):
        self.assertEqual(clues_of((7,)), ((0, 7),))
        self.assertEqual(clues_of((0, 1, 2)), ((0, 0), (1, 1), (2, 2)))

    def test_reaches(self):
        self.assertIs(reaches(PUZZLE, ((2, 2),), ONE), True)
        self.assertIs(reaches(PUZZLE, ((0, 0),), ONE), False)
        self.assertIs(reaches(PUZZLE, (), ONE), False)
        self.assertIs(reaches(ROW, (), ONE), True)
        self.assertIs(reaches(ROW, (), ("strength", 1)), True)
        # No answer has these clues: neither goal is reached.
        for goal in GOALS:
            self.assertIs(reaches(PUZZLE, ((0, 2),), goal), False)
            self.assertIs(reaches(made.EMPTY, (), goal), False)
        # One answer that strength 1 does not come to.
        apart = (((0, 1, 2),) * 2, (("below", 0, 1), ("sum", (0, 1), 2, 2)))
        self.assertEqual([reaches(apart, (), goal) for goal in GOALS], [True, False, True, True])

    def test_as_the_oracle_tells(self):
        for puzzle, answer in CASES:
            for clues in made.some(oracle_maker.lots(answer), 5, DICE):
                for goal in GOALS:
                    found = reaches(puzzle, clues, goal)
                    self.assertIs(found, oracle_maker.reaches(puzzle, clues, goal))
                    if found:
                        self.assertTrue(reaches(puzzle, clues, ONE))
                        for more in made.some(oracle_maker.lots(answer), 3, DICE):
                            self.assertTrue(reaches(puzzle, tuple(sorted(set(more) | set(clues))), goal))
                self.assertEqual(reaches(puzzle, clues, ("strength", len(answer))), reaches(puzzle, clues, ONE))

    def test_other_clues_than_an_answers(self):
        for puzzle, answer in CASES[:30]:
            for part in made.some(oracle.parts(puzzle, 2), 6, DICE):
                for goal in GOALS[:2]:
                    self.assertIs(reaches(puzzle, part, goal), oracle_maker.reaches(puzzle, part, goal))


class LeastCluesTest(unittest.TestCase):
    def test_by_hand(self):
        self.assertEqual(least_clues(PUZZLE, (0, 1, 2), (0, 1, 2), ONE), ((2, 2),))
        self.assertEqual(least_clues(PUZZLE, (0, 1, 2), (2, 1, 0), ONE), ((1, 1),))
        self.assertEqual(least_clues(ROW, (0, 1, 2), (1, 0, 2), ("strength", 1)), ())
        self.assertEqual(least_clues(made.FREE, (2, 1), (0, 1), ONE), ((1, 1),))
        self.assertEqual(least_clues(made.FREE, (2, 1), (1, 0), ONE), ((0, 2),))
        self.assertEqual(least_clues(made.BARE, (4, 7), (1, 0), ONE), ((1, 7),))

    def test_several_orders_and_both_goals(self):
        for puzzle, answer in CASES:
            for order in made.some(permutations(range(len(answer))), 4, DICE):
                for goal in GOALS:
                    clues = least_clues(puzzle, answer, order, goal)
                    self.assertEqual(clues, oracle_maker.least_clues(puzzle, answer, order, goal))
                    self.assertIsNone(judge_least(puzzle, answer, goal, clues))
                    self.assertIn(clues, made_all(puzzle, answer, goal))

    def test_goals_differ(self):
        apart = (((0, 1, 2),) * 2, (("below", 0, 1), ("sum", (0, 1), 2, 2)))
        self.assertEqual([least_clues(apart, (0, 2), (0, 1), goal) for goal in GOALS], [(), ((1, 2),), (), ()])


class JudgeLeastTest(unittest.TestCase):
    def test_by_hand(self):
        self.assertIsNone(judge_least(PUZZLE, (0, 1, 2), ONE, ((2, 2),)))
        self.assertIsNone(judge_least(PUZZLE, (0, 1, 2), ONE, ((1, 1),)))
        self.assertIsNone(judge_least(ROW, (0, 1, 2), ONE, ()))
        self.assertEqual(judge_least(PUZZLE, (0, 1, 2), ONE, ()), ("reach",))
        self.assertEqual(judge_least(PUZZLE, (0, 1, 2), ONE, ((0, 0),)), ("reach",))
        self.assertEqual(judge_least(PUZZLE, (0, 1, 2), ONE, ((0, 0), (2, 2))), ("spare", 0))
        self.assertEqual(judge_least(PUZZLE, (0, 1, 2), ONE, ((1, 1), (2, 2))), ("spare", 1))
        self.assertEqual(judge_least(ROW, (0, 1, 2), ONE, ((1, 1), (2, 2))), ("spare", 1))
        self.assertEqual(judge_least(SQUARE, (1, 2, 3, 1), ONE, ((0, 1), (1, 2), (2, 3))), ("spare", 0))
        self.assertEqual(judge_least(SQUARE, (1, 2, 3, 1), ONE, ((0, 1), (3, 1))), ("reach",))
        self.assertIsNone(judge_least(SQUARE, (1, 2, 3, 1), ONE, ((1, 2), (2, 3))))

    def test_form(self):
        for value in (None, True, 0, "", [], {}, [(2, 2)], ([2, 2],), ((2, 2, 2),), ((2,),), (2, 2), (None,), ((2, 1),), ((0, 1),), ((3, 0),), ((-1, 2),),
                      ((2, 2), (1, 1)), ((2, 2), (2, 2)), ((False, 0), (2, 2)), ((1, True),), ((True, 1),), ((0, False),), ((2, "2"),), ((2, (2,)),),
                      ((1, 1), (2, 2), None), ((made.BIG, 2),), ((2, made.BIG),), (((2, 2),),)):
            self.assertEqual(judge_least(PUZZLE, (0, 1, 2), ONE, value), ("form",), value)

    def test_clues_of_another_answer(self):
        self.assertIsNone(judge_least(made.FREE, (1, 2), ONE, ((0, 1),)))
        self.assertEqual(judge_least(made.FREE, (2, 1), ONE, ((0, 1),)), ("form",))
        self.assertEqual(judge_least(PUZZLE, (0, 2, 1), ONE, ((2, 2),)), ("form",))

    def test_any_value(self):
        for value in made.STRANGE + made.DEEP:
            for shown in (value, (value,), ((value, 2),), ((2, value),), ((2, 2), value)):
                for goal in GOALS[:2]:
                    self.assertEqual(judge_least(PUZZLE, (0, 1, 2), goal, shown), oracle_maker.judge_least(PUZZLE, (0, 1, 2), goal, shown))

    def test_all_clues_and_small_changes(self):
        for puzzle, answer in CASES:
            for goal in GOALS[:3]:
                values = made.some(oracle_maker.lots(answer), 6, DICE)
                for clues in made.some(made_all(puzzle, answer, goal), 2, DICE):
                    values += [clues] + made.some(made.changed(clues), 8, DICE)
                for value in values:
                    expected = oracle_maker.judge_least(puzzle, answer, goal, value)
                    self.assertEqual(judge_least(puzzle, answer, goal, value), expected, (puzzle, answer, goal, value))


class WhyTest(unittest.TestCase):
    def test_needed_for(self):
        self.assertEqual(needed_for(PUZZLE, ((2, 2),), 2), (0, 2, 1))
        self.assertEqual(needed_for(PUZZLE, ((1, 1),), 1), (0, 2, 1))
        self.assertIsNone(needed_for(PUZZLE, ((0, 0), (2, 2)), 0))
        self.assertEqual(needed_for(PUZZLE, ((0, 0), (2, 2)), 2), (0, 2, 1))
        self.assertEqual(needed_for(made.FREE, ((0, 1),), 0), (2, 1))
        self.assertIsNone(needed_for(ROW, ((0, 0),), 0))

    def test_needed_for_as_the_oracle_tells(self):
        for puzzle, answer in CASES:
            for clues in made.some(oracle_maker.all_reaching(puzzle, answer, ONE), 5, DICE):
                for cell, told in clues:
                    self.assertEqual(needed_for(puzzle, clues, cell), oracle_maker.needed_for(puzzle, clues, cell))

    def test_difference_lots(self):
        self.assertEqual(difference_lots(PUZZLE, (0, 1, 2)), ((1, 2),))
        self.assertEqual(difference_lots(ROW, (0, 1, 2)), ())
        self.assertEqual(difference_lots(made.BARE, (4, 2)), ((1,),))
        free = (((0, 1),) * 3, ())
        self.assertEqual(difference_lots(free, (0, 0, 0)), ((0,), (1,), (2,)))
        some = (((0, 1),) * 3, (("table", (0, 1, 2), ((0, 0, 0), (0, 0, 1), (0, 1, 1), (1, 1, 0), (1, 1, 1))),))
        self.assertEqual(difference_lots(some, (0, 0, 0)), ((0, 1), (2,)))
        self.assertEqual(difference_lots(some, (1, 1, 1)), ((0,), (2,)))

    def test_clues_reach_one_just_if_they_hit_each_lot(self):
        for puzzle, answer in CASES:
            lots = difference_lots(puzzle, answer)
            self.assertEqual(lots, oracle_maker.difference_lots(puzzle, answer))
            for clues in oracle_maker.lots(answer):
                cells = {cell for cell, told in clues}
                self.assertEqual(reaches(puzzle, clues, ONE), all(cells & set(lot) for lot in lots))

    def test_fewest_clues(self):
        self.assertEqual(fewest_clues(PUZZLE, (0, 1, 2), ONE), ((1, 1),))
        self.assertEqual(fewest_clues(ROW, (0, 1, 2), ONE), ())
        self.assertEqual(fewest_clues((((0, 1),) * 3, ()), (0, 1, 0), ONE), ((0, 0), (1, 1), (2, 0)))
        for puzzle, answer in CASES:
            for goal in GOALS:
                # The lots come with fewer cells first, else ascending.
                self.assertEqual(fewest_clues(puzzle, answer, goal), oracle_maker.all_reaching(puzzle, answer, goal)[0])

    def test_sure_clues(self):
        self.assertEqual(sure_clues(PUZZLE, (0, 1, 2), ONE), ())
        self.assertEqual(sure_clues(made.BARE, (4, 2), ONE), (1,))
        self.assertEqual(sure_clues((((0, 1),) * 3, ()), (0, 1, 0), ONE), (0, 1, 2))
        for puzzle, answer in CASES:
            for goal in GOALS:
                found = oracle_maker.all_reaching(puzzle, answer, goal)
                sure = tuple(c for c in range(len(answer)) if all(c in dict(clues) for clues in found))
                self.assertEqual(sure_clues(puzzle, answer, goal), sure)


class MadeAllTest(unittest.TestCase):
    def test_by_hand(self):
        self.assertEqual(made_all(PUZZLE, (0, 1, 2), ONE), (((1, 1),), ((2, 2),)))
        self.assertEqual(made_all(ROW, (0, 1, 2), ("strength", 1)), ((),))
        self.assertEqual(made_all(made.FREE, (2, 1), ONE), (((0, 2),), ((1, 1),)))

    def test_all_least_clues(self):
        for puzzle, answer in CASES:
            for goal in GOALS:
                found = made_all(puzzle, answer, goal)
                self.assertEqual(found, oracle_maker.made_all(puzzle, answer, goal))
                self.assertEqual(list(found), sorted(set(found)))

    def test_each_comes_by_some_order(self):
        for puzzle, answer in CASES:
            for goal in GOALS[:3]:
                for clues in made_all(puzzle, answer, goal):
                    own = [cell for cell, told in clues]
                    order = tuple([c for c in range(len(answer)) if c not in own] + own)
                    self.assertEqual(least_clues(puzzle, answer, order, goal), clues)

    def test_six_cells(self):
        puzzle = (((0, 1, 2),) * 6, (("unlike", (0, 1, 2)), ("unlike", (3, 4, 5)), ("unlike", (0, 3)), ("unlike", (1, 4)), ("unlike", (2, 5))))
        answer = (0, 1, 2, 1, 2, 0)
        self.assertIn(answer, oracle.answers(puzzle))
        for goal in GOALS[:2]:
            self.assertEqual(made_all(puzzle, answer, goal), oracle_maker.made_all(puzzle, answer, goal))
        self.assertEqual(made_all(puzzle, answer, ("strength", 3)), made_all(puzzle, answer, ("strength", 2)))


if __name__ == "__main__":
    unittest.main()
