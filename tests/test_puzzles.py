"""Puzzles ([1.1], [1.2]), parts ([1.3]), questions ([1.4]) and puzzles cut smaller ([1.5])."""

import random
import unittest
from itertools import product

import made
import oracle
from toldreasons.puzzles import (
    agreeing, asked_cells, both_of, cut_to, do_agree, fillings, first_broken, is_answer, is_part, is_puzzle,
    judge_puzzle, lies_in, narrowed, part_of, pieces_of, questions, value_at, with_rules,
)

MADE = made.made_puzzles(1, 80)


class JudgePuzzleTest(unittest.TestCase):
    def test_right_ones(self):
        for puzzle in made.PUZZLES + tuple(MADE):
            self.assertIsNone(judge_puzzle(puzzle))
            self.assertIs(is_puzzle(puzzle), True)

    def test_form(self):
        for value in (None, (), ((),), ((), ()), (((1,),), (), ()), [((1,),), ()], ([(1,)], ()), (((1,),), []),
                      (((1,),), None), ("ab", ()), (((),) * 17, ()), {0: ((1,),), 1: ()}, True, "cell 1"):
            self.assertEqual(judge_puzzle(value), ("form",), value)
            self.assertIs(is_puzzle(value), False)

    def test_one_to_sixteen_cells(self):
        for n in range(1, 17):
            self.assertIsNone(judge_puzzle((((1,),) * n, (("unlike", (n - 1,)),))))
            self.assertEqual(judge_puzzle((((1,),) * n, (("unlike", (n,)),))), ("rule", 0))
        self.assertEqual(judge_puzzle((((1,),) * 17, ())), ("form",))
        self.assertEqual(judge_puzzle((((1,),) * 40, ())), ("form",))

    def test_domains(self):
        for domain in ((), (0,), (99,), (0, 99), tuple(range(100))):
            self.assertIsNone(judge_puzzle(((domain,), ())), domain)
        for domain in ((2, 1), (1, 1), (-1,), (100,), (True,), (False, 1), [1], None, 1, ("1",), ((1,),), (made.BIG,),
                       (1, 2, 2), {1: 2}, "12"):
            self.assertEqual(judge_puzzle(((domain,), ())), ("domain", 0), domain)

    def test_least_fault_is_told(self):
        bad = ("below", 0, 0)
        self.assertEqual(judge_puzzle((((1,), (2, 1), (3, 3)), (bad,))), ("domain", 1))
        self.assertEqual(judge_puzzle((((2, 1), (1,), [3]), ())), ("domain", 0))
        good = ("below", 0, 1)
        self.assertEqual(judge_puzzle((((1,), ()), (good, good, bad, good, None))), ("rule", 2))

    def test_any_value(self):
        for value in made.STRANGE + made.DEEP:
            self.assertEqual(judge_puzzle(value), oracle.judge_puzzle(value), value)
            self.assertIs(is_puzzle(value), oracle.judge_puzzle(value) is None)
            self.assertEqual(judge_puzzle((((1, 2),), (value,))), oracle.judge_puzzle((((1, 2),), (value,))), value)
            self.assertEqual(judge_puzzle(((value,), ())), oracle.judge_puzzle(((value,), ())), value)

    def test_small_changes(self):
        for puzzle in made.PUZZLES:
            for value in made.changed(puzzle):
                self.assertEqual(judge_puzzle(value), oracle.judge_puzzle(value), value)


class AnswersTest(unittest.TestCase):
    def test_cell_goes_ahead_of_rule(self):
        puzzle = (((1, 2), (1, 2), ()), (("below", 0, 1), ("unlike", (0, 1)), ("below", 1, 0)))
        self.assertEqual(first_broken(puzzle, (1, 2, 0)), ("cell", 2))
        self.assertEqual(first_broken(puzzle, (0, 3, 0)), ("cell", 0))
        self.assertEqual(first_broken(puzzle, (1, 3, 0)), ("cell", 1))

    def test_least_rule_is_told(self):
        puzzle = (((1, 2), (1, 2)), (("below", 0, 1), ("unlike", (0, 1)), ("sum", (0, 1), 0, 2)))
        self.assertEqual(first_broken(puzzle, (1, 1)), ("rule", 0))
        self.assertEqual(first_broken(puzzle, (1, 2)), ("rule", 2))
        self.assertIsNone(first_broken(with_rules(puzzle[:1] + ((),), (("below", 0, 1),)), (1, 2)))

    def test_values_go_to_the_rules_cells_in_their_order(self):
        puzzle = (((0, 1), (0, 1)), (("table", (1, 0), ((0, 1),)),))
        self.assertIsNone(first_broken(puzzle, (1, 0)))
        self.assertEqual(first_broken(puzzle, (0, 1)), ("rule", 0))

    def test_as_the_oracle_tells(self):
        for puzzle in made.PUZZLES + tuple(MADE):
            pool = sorted({0, 4} | {value for domain in puzzle[0] for value in domain})
            for values in product(pool, repeat=min(3, len(puzzle[0]))):
                values = values + values[:1] * (len(puzzle[0]) - len(values))
                self.assertEqual(first_broken(puzzle, values), oracle.first_broken(puzzle, values), (puzzle, values))
                self.assertIs(is_answer(puzzle, values), oracle.first_broken(puzzle, values) is None)

    def test_is_answer_of_any_value(self):
        self.assertIs(is_answer(made.PAIR, (0, 1)), True)
        for value in ((False, True), (0, True), (False, 1), [0, 1], (0,), (0, 1, 0), None, (), "01", (0, None), (0, "1"),
                      (0, (1,)), (0, [1]), {0: 0, 1: 1}, (0, made.BIG), (0, -1)):
            self.assertIs(is_answer(made.PAIR, value), False, value)
        for value in made.STRANGE + made.DEEP:
            self.assertIs(is_answer(made.BARE, value), False, value)
            self.assertIs(is_answer(made.FREE, value), value == (1, 2) and type(value) is tuple, value)


class PartsTest(unittest.TestCase):
    def test_is_part(self):
        for part in ((), ((0, 1),), ((2, 3),), ((0, 1), (1, 2), (2, 3))):
            self.assertIs(is_part(made.TOLD, part), True, part)
        for value in (((2, 3), (0, 1)), ((0, 1), (0, 1)), ((0, 1), (0, 2)), ((0, 3),), ((3, 1),), ((-1, 1),), ((0, True),),
                      ((False, 1),), ((True, 1),), [(0, 1)], ([0, 1],), ((0, 1, 1),), ((0,),), (0, 1), None, ((0, None),),
                      "01", ((0, "1"),), ((None, 1),), ((0, made.BIG),), (((0,), 1),), ((0, [1]),), {(0, 1): 1}):
            self.assertIs(is_part(made.TOLD, value), False, value)
        self.assertIs(is_part(made.EMPTY, ((1, 0),)), False)

    def test_is_part_of_any_value(self):
        for puzzle in made.PUZZLES:
            for value in made.STRANGE + made.DEEP:
                self.assertIs(is_part(puzzle, value), oracle.is_part(puzzle, value), value)
            for value in made.changed(tuple((c, domain[-1]) for c, domain in enumerate(puzzle[0]) if domain)):
                self.assertIs(is_part(puzzle, value), oracle.is_part(puzzle, value), value)

    def test_two_parts(self):
        self.assertEqual(both_of((), ()), ())
        self.assertEqual(both_of(((1, 5),), ((0, 9), (2, 0))), ((0, 9), (1, 5), (2, 0)))
        self.assertIs(do_agree((), ((0, 1),)), True)
        self.assertIs(do_agree(((0, 0),), ((0, 0), (1, 1))), True)
        self.assertIs(do_agree(((0, 0), (1, 1)), ((1, 0),)), False)
        self.assertIs(lies_in(((0, 1),), ()), False)
        self.assertIs(lies_in(((0, 1),), ((0, 2),)), False)
        for puzzle in (made.TRIO, made.PAIR):
            found = oracle.parts(puzzle, 3)
            for f, t in product(found, found):
                self.assertIs(do_agree(f, t), oracle.agree(f, t))
                self.assertIs(lies_in(f, t), oracle.lies_in(f, t))
                if oracle.agree(f, t):
                    self.assertEqual(both_of(f, t), oracle.both(f, t))

    def test_pieces(self):
        part = ((0, 5), (1, 0), (3, 2), (7, 9))
        self.assertEqual(pieces_of(part, 0), ((),))
        self.assertEqual(pieces_of(part[:2], 2), ((), ((0, 5),), ((1, 0),), ((0, 5), (1, 0))))
        for k in range(8):
            self.assertEqual(pieces_of(part, k), oracle.pieces(part, k))
        self.assertEqual(pieces_of(part, made.BIG), oracle.pieces(part, 4))
        twelve = tuple((c, c % 3) for c in range(12))
        self.assertEqual(pieces_of(twelve, 12), oracle.pieces(twelve, 12))
        self.assertEqual(pieces_of((), 0), ((),))

    def test_value_at(self):
        self.assertEqual([value_at(((0, 5), (2, 0)), c) for c in range(4)], [5, None, 0, None])
        self.assertIsNone(value_at((), 0))

    def test_part_of(self):
        self.assertEqual(part_of((4, 5, 6), (2, 0, 1)), ((0, 4), (1, 5), (2, 6)))
        self.assertEqual(part_of((4, 5, 6), ()), ())
        self.assertEqual(part_of((4, 5, 6), [2, 1]), ((1, 5), (2, 6)))
        many = tuple(range(10, 26))
        self.assertEqual(part_of(many, (8, 1)), ((1, 11), (8, 18)))
        self.assertEqual(part_of(many, (15, 8, 0, 9, 7)), ((0, 10), (7, 17), (8, 18), (9, 19), (15, 25)))
        self.assertEqual(part_of(many, tuple(reversed(range(16)))), tuple(enumerate(many)))


class QuestionsTest(unittest.TestCase):
    def test_questions(self):
        self.assertEqual(questions(made.BARE), (("cell", 0), ("cell", 1)))
        for puzzle in made.PUZZLES + tuple(MADE):
            self.assertEqual(questions(puzzle), oracle.questions(puzzle))

    def test_asked_cells_ascend(self):
        self.assertEqual([asked_cells(made.KINDS, ("rule", j)) for j in range(7)],
                         [(0, 2), (0, 1), (1, 2, 3), (0, 1, 2), (1, 3), (0, 1, 2, 3), (0, 1, 2, 3)])
        self.assertEqual(asked_cells(made.KINDS, ("cell", 3)), (3,))

    def test_fillings_in_another_order_than_the_rules(self):
        puzzle = (((0, 1), (0, 1)), (("table", (1, 0), ((0, 1), (1, 0), (1, 5))), ("below", 1, 0)))
        self.assertEqual(fillings(puzzle, ("rule", 0)), (((0, 0), (1, 1)), ((0, 1), (1, 0))))
        self.assertEqual(fillings(puzzle, ("rule", 1)), (((0, 1), (1, 0)),))
        self.assertEqual(agreeing(puzzle, ((0, 0),), ("rule", 0)), (((0, 0), (1, 1)),))

    def test_empty_domains(self):
        self.assertEqual(fillings(made.EMPTY, ("cell", 1)), ())
        self.assertEqual(fillings(made.EMPTY, ("rule", 1)), ())
        self.assertEqual(fillings(made.EMPTY, ("rule", 0)), (((0, 1), (2, 3)), ((0, 2), (2, 3))))
        wide = ((tuple(range(100)),) * 8 + ((),), (("unlike", tuple(range(9))),))
        self.assertEqual(fillings(wide, ("rule", 0)), ())

    def test_as_the_oracle_tells(self):
        for puzzle in made.PUZZLES + tuple(MADE):
            for question in oracle.questions(puzzle):
                self.assertEqual(asked_cells(puzzle, question), oracle.asked_cells(puzzle, question))
                self.assertEqual(fillings(puzzle, question), oracle.fillings(puzzle, question), (puzzle, question))
                for part in oracle.parts(puzzle, 2):
                    self.assertEqual(agreeing(puzzle, part, question), oracle.agreeing(puzzle, part, question))

    def test_ten_thousand_fillings(self):
        ten = tuple(range(10))
        puzzle = ((ten,) * 4, (("table", (3, 1, 0, 2), tuple(product(ten, repeat=4))), ("sum", (0, 1, 2, 3), 0, 99)))
        self.assertEqual(len(fillings(puzzle, ("rule", 0))), 10000)
        self.assertEqual(fillings(puzzle, ("rule", 0)), fillings(puzzle, ("rule", 1)))


class CutTest(unittest.TestCase):
    def test_cut_to(self):
        self.assertEqual(cut_to(made.TOLD, ((0, 2), (2, 1))), (((2,), (1, 2), (1,)), made.TOLD[1]))
        self.assertEqual(cut_to(made.TOLD, ()), made.TOLD)

    def test_answers_of_the_cut_puzzle(self):
        for puzzle in MADE[:40]:
            for part in oracle.parts(puzzle, 2):
                found = [values for values in oracle.answers(puzzle) if all(values[c] == v for c, v in part)]
                self.assertEqual(list(oracle.answers(cut_to(puzzle, part))), found)

    def test_narrowed(self):
        self.assertEqual(narrowed(made.TOLD, ((2, 9), (), (3, 1, 0))), (((2,), (), (1, 3)), made.TOLD[1]))
        self.assertEqual(narrowed(made.TOLD, made.TOLD[0]), made.TOLD)
        self.assertEqual(narrowed(made.EMPTY, ((2, 1), (5,), (4,))), (((1, 2), (), ()), made.EMPTY[1]))

    def test_with_rules(self):
        more = (("unlike", (2,)), ("below", 1, 2))
        self.assertEqual(with_rules(made.TOLD, more), (made.TOLD[0], made.TOLD[1] + more))
        self.assertEqual(with_rules(made.BARE, ()), made.BARE)


if __name__ == "__main__":
    unittest.main()
