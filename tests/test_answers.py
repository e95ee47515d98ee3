"""Answers by trying ([3.1], [3.2], [3.5], [3.6])."""

import unittest
from itertools import product

import made
import oracle
from toldreasons.answers import (
    answer_count, answer_values, answers, answers_with, beside, common_part, first_answer, free_cells, is_forced,
    joint, judge_answer, settled, without_rule,
)
from toldreasons.puzzles import cut_to, is_puzzle, with_rules

MADE = made.PUZZLES + tuple(made.made_puzzles(11, 150))
NONE = (((1, 2), (1, 2)), (("sum", (0, 1), 9, 9),))
SWAPPED = (((0, 1), (0, 1), (0, 1)), (("table", (2, 0, 1), ((0, 1, 1), (1, 0, 0), (1, 0, 1))),))


class FindingTest(unittest.TestCase):
    def assert_found(self, puzzle, found):
        self.assertEqual(answers(puzzle), found)
        self.assertEqual(answer_count(puzzle), len(found))
        self.assertEqual(first_answer(puzzle), found[0] if found else None)
        self.assertEqual(settled(puzzle), found[:2])

    def test_none_one_two_many(self):
        self.assert_found(NONE, ())
        self.assert_found(made.TRIO, ())
        self.assert_found(made.TOLD, ((1, 2, 3),))
        self.assert_found(made.FREE, ((1, 2), (2, 1)))
        self.assert_found(made.BARE, ((4, 2), (4, 7)))
        self.assert_found((((1, 2), (0, 3), (5,)), ()), ((1, 0, 5), (1, 3, 5), (2, 0, 5), (2, 3, 5)))

    def test_empty_domains(self):
        self.assert_found(made.EMPTY, ())
        self.assert_found((((),), ()), ())
        self.assert_found(((tuple(range(100)),) * 15 + ((),), (("below", 0, 1),)), ())

    def test_ascending_though_a_rule_names_its_cells_otherwise(self):
        self.assert_found(SWAPPED, ((0, 0, 1), (0, 1, 1), (1, 1, 0)))

    def test_as_the_oracle_tells(self):
        for puzzle in MADE:
            self.assert_found(puzzle, oracle.answers(puzzle))

    def test_answers_with_a_part(self):
        for puzzle in MADE[:80]:
            found = oracle.answers(puzzle)
            for part in oracle.parts(puzzle, 2):
                right = tuple(values for values in found if all(values[c] == value for c, value in part))
                self.assertEqual(answers_with(puzzle, part), right)
                self.assertIs(is_forced(puzzle, part), right == found)

    def test_twenty_thousand_tuples(self):
        puzzle = (((0, 1),) * 14, (("runs", tuple(range(9)), (1, 2, 3)),))
        self.assertEqual(answer_count(puzzle), 4 * 32)
        self.assertEqual(answer_count((((0, 1),) * 14, ())), 2 ** 14)


class JudgeAnswerTest(unittest.TestCase):
    def test_form(self):
        for value in (None, True, (), (1, 2), (1, 2, 3, 3), [1, 2, 3], (True, 2, 3), (1, 2, None), (1, 2, "3"),
                      (1, 2, (3,)), "123", {1: 1, 2: 2, 3: 3}, (1, [2], 3), (1, 2, False)):
            self.assertEqual(judge_answer(made.TOLD, value), ("form",), value)

    def test_broken(self):
        self.assertIsNone(judge_answer(made.TOLD, (1, 2, 3)))
        self.assertEqual(judge_answer(made.TOLD, (1, 2, 4)), ("cell", 2))
        self.assertEqual(judge_answer(made.TOLD, (0, 2, 4)), ("cell", 0))
        self.assertEqual(judge_answer(made.TOLD, (1, made.BIG, 3)), ("cell", 1))
        self.assertEqual(judge_answer(made.TOLD, (-1, 2, 3)), ("cell", 0))
        self.assertEqual(judge_answer(made.TOLD, (2, 1, 3)), ("rule", 1))
        self.assertEqual(judge_answer(made.TOLD, (1, 1, 3)), ("rule", 0))
        self.assertEqual(judge_answer(made.EMPTY, (1, 0, 3)), ("cell", 1))

    def test_as_the_oracle_tells(self):
        for puzzle in MADE[:60]:
            pool = sorted({0, 1} | {value for domain in puzzle[0] for value in domain})
            values = list(product(pool, repeat=len(puzzle[0])))[:200]
            for value in values + list(made.STRANGE + made.DEEP) + list(made.changed(values[0])):
                self.assertEqual(judge_answer(puzzle, value), oracle.judge_answer(puzzle, value), (puzzle, value))


class HangingTogetherTest(unittest.TestCase):
    def test_without_rule(self):
        self.assertEqual(without_rule(made.KINDS, 0), (made.KINDS[0], made.KINDS[1][1:]))
        self.assertEqual(without_rule(made.KINDS, 6), (made.KINDS[0], made.KINDS[1][:6]))
        self.assertEqual(without_rule(made.KINDS, 2)[1], made.KINDS[1][:2] + made.KINDS[1][3:])
        for puzzle in MADE:
            for j, rule in enumerate(puzzle[1]):
                fewer = without_rule(puzzle, j)
                self.assertLessEqual(set(answers(puzzle)), set(answers(fewer)))
                fit = [values for values in answers(fewer)
                       if oracle.fits(rule, tuple(values[c] for c in oracle.cells_of(rule)))]
                self.assertEqual(list(answers(with_rules(fewer, (rule,)))), fit)
                self.assertEqual(list(answers(puzzle)), fit)

    def test_answers_of_the_cut_puzzle(self):
        for puzzle in MADE[:60]:
            for part in oracle.parts(puzzle, 2):
                self.assertEqual(answers(cut_to(puzzle, part)), answers_with(puzzle, part))

    def test_joint(self):
        one = (made.TOLD[0], made.TOLD[1][:1])
        other = (made.TOLD[0], made.TOLD[1][1:])
        self.assertEqual(joint(one, other), made.TOLD)
        self.assertEqual(joint(other, one), (made.TOLD[0], made.TOLD[1][::-1]))
        self.assertEqual(answers(joint(one, other)), ((1, 2, 3),))
        for puzzle in MADE:
            one = (puzzle[0], puzzle[1][:2])
            other = (puzzle[0], puzzle[1][2:])
            self.assertEqual(set(answers(joint(one, other))), set(answers(one)) & set(answers(other)))

    def test_beside(self):
        self.assertEqual(beside((((1,),), ()), made.FREE), (((1,), (1, 2), (1, 2)), (("unlike", (1, 2)),)))
        both = beside(made.PAIR, made.KINDS)
        self.assertEqual(both[0], made.PAIR[0] + made.KINDS[0])
        self.assertEqual(both[1], (
            ("below", 0, 1),
            ("table", (4, 2), ((0, 1), (1, 2), (2, 0))),
            ("unlike", (3, 2)),
            ("sum", (5, 3, 4), 2, 4),
            ("count", (2, 3, 4), (1, 2), 1, 2),
            ("below", 5, 3),
            ("runs", (5, 4, 3, 2), (2,)),
            ("joined", (2, 5, 4, 3), ((2, 3), (3, 5)), (1, 2)),
        ))
        self.assertEqual(beside(made.KINDS, made.PAIR)[1], made.KINDS[1] + (("below", 4, 5),))

    def test_answers_beside(self):
        for one, other in zip(MADE, MADE[1:60]):
            both = beside(one, other)
            self.assertTrue(is_puzzle(both))
            pairs = [values + others for values in oracle.answers(one) for others in oracle.answers(other)]
            self.assertEqual(answers(both), tuple(pairs))

    def test_sixteen_cells(self):
        half = (((0, 1),) + ((3,),) * 7, (("unlike", (0, 7)),))
        self.assertEqual(answer_count(beside(half, half)), 4)


class WhatIsForcedTest(unittest.TestCase):
    def test_free_cells(self):
        three = (((1, 2), (5,), (1, 2)), (("unlike", (0, 2)),))
        self.assertEqual(free_cells(three, (1, 5, 2)), (0, 2))
        self.assertEqual(free_cells(three, (2, 5, 1)), (0, 2))
        self.assertEqual(free_cells(made.TOLD, (1, 2, 3)), ())

    def test_common_part(self):
        self.assertIsNone(common_part(NONE))
        self.assertIsNone(common_part(made.EMPTY))
        self.assertEqual(common_part(made.FREE), ())
        self.assertEqual(common_part(made.BARE), ((0, 4),))
        self.assertEqual(common_part(made.TOLD), ((0, 1), (1, 2), (2, 3)))

    def test_is_forced_without_answers(self):
        for part in oracle.parts(NONE, 2):
            self.assertIs(is_forced(NONE, part), True)
        self.assertIs(is_forced(made.EMPTY, ((0, 2),)), True)
        self.assertIs(is_forced(made.FREE, ()), True)
        self.assertIs(is_forced(made.FREE, ((0, 1),)), False)

    def test_as_the_oracle_tells(self):
        for puzzle in MADE:
            found = oracle.answers(puzzle)
            columns = [sorted({values[c] for values in found}) for c in range(len(puzzle[0]))]
            for c, column in enumerate(columns):
                self.assertEqual(answer_values(puzzle, c), tuple(column))
            for values in found:
                free = tuple(c for c, column in enumerate(columns) if len(column) > 1)
                self.assertEqual(free_cells(puzzle, values), free)
            common = tuple((c, column[0]) for c, column in enumerate(columns) if len(column) == 1)
            self.assertEqual(common_part(puzzle), common if found else None)


if __name__ == "__main__":
    unittest.main()
