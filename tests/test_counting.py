"""Answers counted by taking cells off: [12.1] to [12.6]."""

import random
import unittest
from itertools import permutations

import made
import oracle_counting
from toldreasons.answers import answers, common_part
from toldreasons.counting import (
    answer_of_number, cell_table, count_by, is_one, judge_steps, number_of_answer, only_at, put_together, rule_table, shares_by,
    steps_of, summed_off, sure_values, widest_lot,
)
from toldreasons.kinds import boxed, mined, painted, roaded, squares, summed
from toldreasons.widths import neighbours, width_of

NONE = ((), ())
UNIT = ((), (((), 1),))


def some_puzzles(seed, many, **bounds):
    return made.made_puzzles(seed, many, most_cells=4, empty=0.06, **bounds) + list(made.PUZZLES)


def some_orders(dice, puzzle, many=3):
    cells = list(range(len(puzzle[0])))
    return [tuple(dice.sample(cells, len(cells))) for _ in range(many)]


def made_table(dice, cells):
    """A table of these cells, with some rows of the values 0 to 2."""
    own = tuple(sorted(cells))
    rows = {tuple(dice.randrange(3) for _ in own): dice.randint(1, 4) for _ in range(dice.randint(0, 6))}
    return (own, tuple(sorted(rows.items())))


class TablesTest(unittest.TestCase):
    def test_cells(self):
        puzzle = (((0, 5, 99), (), (1,)), ())
        self.assertEqual(cell_table(puzzle, 0), ((0,), (((0,), 1), ((5,), 1), ((99,), 1))))
        self.assertEqual((cell_table(puzzle, 1), cell_table(puzzle, 2)), (((1,), ()), ((2,), (((1,), 1),))))

    def test_rules_of_each_kind(self):
        words = set()
        for puzzle in some_puzzles(401, 60):
            for j, rule in enumerate(puzzle[1]):
                self.assertEqual(rule_table(puzzle, j), oracle_counting.rule_table(puzzle, j))
                words.add(rule[0])
        self.assertEqual(len(words), 7)

    def test_rules(self):
        puzzle = (((0, 1), (0, 1), (2,), ()), (
            ("table", (2, 0), ((2, 1), (2, 7), (3, 0))), ("below", 1, 0), ("sum", (1, 0), 9, 9), ("unlike", (3, 2)), ("runs", (1, 2, 0), (1, 1)),
        ))
        self.assertEqual(rule_table(puzzle, 0), ((0, 2), (((1, 2), 1),)))
        self.assertEqual(rule_table(puzzle, 1), ((0, 1), (((1, 0), 1),)))
        self.assertEqual(rule_table(puzzle, 2), ((0, 1), ()))
        self.assertEqual(rule_table(puzzle, 3), ((2, 3), ()))
        self.assertEqual(rule_table(puzzle, 4), ((0, 1, 2), ()))


class TogetherTest(unittest.TestCase):
    def test_like_and_unlike_cells(self):
        one = ((0, 2), (((1, 1), 2), ((1, 2), 3), ((2, 2), 1)))
        other = ((1, 2), (((5, 1), 7), ((6, 2), 10)))
        both = ((0, 1, 2), (((1, 5, 1), 14), ((1, 6, 2), 30), ((2, 6, 2), 10)))
        self.assertEqual(put_together(one, other), both)
        self.assertEqual(put_together(other, one), both)
        self.assertEqual(put_together(one, one), ((0, 2), (((1, 1), 4), ((1, 2), 9), ((2, 2), 1))))
        apart = ((1,), (((8,), 2), ((9,), 1)))
        self.assertEqual(put_together(apart, ((0,), (((3,), 5),))), ((0, 1), (((3, 8), 10), ((3, 9), 5))))

    def test_without_cells_and_without_rows(self):
        one = ((0, 2), (((1, 1), 2), ((1, 2), 3)))
        self.assertEqual((put_together(one, UNIT), put_together(UNIT, one)), (one, one))
        self.assertEqual(put_together(one, ((), (((), 4),))), ((0, 2), (((1, 1), 8), ((1, 2), 12))))
        self.assertEqual((put_together(one, NONE), put_together(NONE, one)), (((0, 2), ()), ((0, 2), ())))
        self.assertEqual((put_together(UNIT, UNIT), put_together(NONE, UNIT)), (UNIT, NONE))
        self.assertEqual(put_together(one, ((1,), ())), ((0, 1, 2), ()))
        self.assertEqual(put_together(((0,), ()), ((0, 3), ())), ((0, 3), ()))

    def test_summed_off(self):
        table = ((0, 1, 2), (((1, 1, 1), 2), ((1, 2, 1), 3), ((2, 1, 1), 4), ((2, 1, 2), 5)))
        self.assertEqual(summed_off(table, 1), ((0, 2), (((1, 1), 5), ((2, 1), 4), ((2, 2), 5))))
        self.assertEqual(summed_off(table, 0), ((1, 2), (((1, 1), 6), ((1, 2), 5), ((2, 1), 3))))
        self.assertEqual(summed_off(((3,), (((1,), 2), ((9,), 8))), 3), ((), (((), 10),)))
        self.assertEqual(summed_off(((3,), ()), 3), NONE)
        self.assertEqual(summed_off(((3, 5), ()), 5), ((3,), ()))

    def test_any_tables(self):
        dice = random.Random(402)
        for _ in range(300):
            cells = [dice.sample(range(5), dice.randint(0, 3)) for _ in range(3)]
            one, other, third = [made_table(dice, own) for own in cells]
            both = put_together(one, other)
            self.assertEqual(both, oracle_counting.put_together(one, other))
            self.assertEqual(both, put_together(other, one))
            self.assertEqual(put_together(both, third), put_together(one, put_together(other, third)))
            for c in one[0]:
                self.assertEqual(summed_off(one, c), oracle_counting.summed_off(one, c))
                for d in one[0]:
                    if c != d:
                        self.assertEqual(summed_off(summed_off(one, c), d), summed_off(summed_off(one, d), c))
                if c not in other[0]:
                    self.assertEqual(summed_off(both, c), put_together(summed_off(one, c), other))


class StepsTest(unittest.TestCase):
    def test_all_orders(self):
        for puzzle in some_puzzles(403, 40):
            many = len(answers(puzzle))
            for order in permutations(range(len(puzzle[0]))):
                steps = steps_of(puzzle, order)
                self.assertEqual(steps, oracle_counting.steps_of(puzzle, order))
                self.assertEqual(count_by(puzzle, order), many)
                self.assertEqual(widest_lot(puzzle, order), max(len(lot) for _, lot, _ in steps))
                self.assertEqual(widest_lot(puzzle, order), width_of(neighbours(puzzle), order) + 1)

    def test_bare_puzzles(self):
        self.assertEqual(steps_of((((4, 7),), ()), (0,)), ((0, (0,), ((), (((), 2),))),))
        self.assertEqual(steps_of((((),), ()), (0,)), ((0, (0,), ((), ())),))
        self.assertEqual(count_by((((4, 7), (1, 2, 3)), ()), (1, 0)), 6)
        self.assertEqual(count_by((((4, 7), ()), ()), (0, 1)), 0)
        self.assertEqual(count_by((((), (4, 7)), (("unlike", (0, 1)),)), (1, 0)), 0)
        self.assertEqual(count_by(made.TRIO, (2, 0, 1)), 0)
        self.assertEqual([widest_lot((((4, 7), ()), ()), (0, 1)), widest_lot(made.TRIO, (0, 1, 2)), widest_lot((((),), ()), (0,))], [1, 3, 1])
        self.assertEqual(steps_of((((1,), (1,)), (("unlike", (0, 1)),)), (1, 0)), ((1, (0, 1), ((0,), ())), (0, (0,), ((), ()))))

    def test_big_counts(self):
        line = (((1, 2, 3, 4),) * 16, tuple(("unlike", (c, c + 1)) for c in range(15)))
        order = tuple(range(16))
        self.assertEqual(count_by(line, order), 4 * 3 ** 15)
        self.assertEqual(count_by(line, order[::2] + order[1::2]), 4 * 3 ** 15)
        self.assertEqual((widest_lot(line, order), widest_lot(line, order[::2] + order[1::2])), (2, 3))
        self.assertEqual(count_by(((tuple(range(100)),) * 16, ()), order), 100 ** 16)
        self.assertEqual(count_by(squares(3), tuple(range(9))), 12)

    def test_kinds_of_puzzles(self):
        dice = random.Random(404)
        for puzzle in (
            squares(2), boxed(1, 3), summed((2, 3), 4, (((0, 1, 2), 6), ((2, 5), 7))), painted((2, 3), ((1, 1), (1,)), ((1,), (1,), (1,))),
            mined((3, 3), ((4, 3), (0, 1))), roaded((2, 3), (2, 3), (2, 2, 1)), roaded((2, 3), (0, 0), (0, 0, 0)),
        ):
            for order in some_orders(dice, puzzle):
                self.assertEqual(count_by(puzzle, order), len(answers(puzzle)))


class NumbersTest(unittest.TestCase):
    def test_there_and_back(self):
        dice = random.Random(405)
        for puzzle in some_puzzles(405, 50):
            found = answers(puzzle)
            for order in some_orders(dice, puzzle, 2):
                for number, answer in enumerate(found):
                    self.assertEqual(answer_of_number(puzzle, order, number), answer)
                    self.assertEqual(number_of_answer(puzzle, order, answer), number)
                for number in (len(found), len(found) + 1, 10 ** 12):
                    self.assertIsNone(answer_of_number(puzzle, order, number))

    def test_what_is_no_answer(self):
        order = (2, 1, 0)
        for values in ((), (1,), (2, 1), (2, 1, 3, 0), (1, 1, 2), (2, 1, 4), (2, 1, -1), (9, 9, 9), (1, 2, made.BIG), (1, 2, 3, 3), (-1, 2, 3)):
            self.assertIsNone(number_of_answer(made.TOLD, order, values), values)
        self.assertEqual(number_of_answer(made.TOLD, order, (1, 2, 3)), 0)
        dice = random.Random(406)
        for puzzle in some_puzzles(406, 20):
            found = answers(puzzle)
            for _ in range(10):
                values = tuple(dice.choice((0, 1, 2, 3, 5, 99)) for _ in puzzle[0])
                number = number_of_answer(puzzle, some_orders(dice, puzzle, 1)[0], values)
                self.assertEqual(number, found.index(values) if values in found else None)

    def test_far_numbers(self):
        line = (((1, 2, 3, 4),) * 16, tuple(("below", c, c + 1) if c == 7 else ("unlike", (c, c + 1)) for c in range(15)))
        order = tuple(range(16))
        many = count_by(line, order)
        self.assertEqual(many, 4 * 3 ** 15 // 2)
        for number in (0, 1, many // 3, many - 1):
            answer = answer_of_number(line, order, number)
            self.assertEqual(number_of_answer(line, order[::-1], answer), number)
        self.assertEqual(answer_of_number(line, order, 0), (1, 2) * 4 + (3, 1, 2, 1, 2, 1, 2, 1))
        self.assertIsNone(answer_of_number(line, order, many))
        self.assertEqual(answer_of_number(line, order, many - 1), (4, 3) * 8)

    def test_only_at(self):
        puzzle = (((1, 2, 9), (1, 2, 9), ()), (("unlike", (0, 1)),))
        self.assertEqual(only_at(puzzle, 0, [9, 1, 9, 50]), (((1, 9), (1, 2, 9), ()), puzzle[1]))
        self.assertEqual(only_at(puzzle, 1, (2,)), (((1, 2, 9), (2,), ()), puzzle[1]))
        self.assertEqual(only_at(puzzle, 1, []), (((1, 2, 9), (), ()), puzzle[1]))
        self.assertEqual(only_at(puzzle, 2, [1, 2]), puzzle)
        self.assertEqual(only_at(puzzle, 0, [3]), (((), (1, 2, 9), ()), puzzle[1]))


class SharesTest(unittest.TestCase):
    def test_by_the_answers(self):
        dice = random.Random(407)
        nothing = 0
        for puzzle in some_puzzles(407, 60):
            found = answers(puzzle)
            shares = tuple(tuple((v, len([a for a in found if a[c] == v])) for v in domain) for c, domain in enumerate(puzzle[0]))
            for order in some_orders(dice, puzzle):
                self.assertEqual(shares_by(puzzle, order), shares)
                for pairs in shares_by(puzzle, order):
                    self.assertEqual(sum(number for _, number in pairs), count_by(puzzle, order))
                    nothing += (0 in dict(pairs).values()) and found != ()
                sure = [pair for pair in common_part(puzzle) or () if found]
                self.assertEqual(sure_values(puzzle, order), tuple(sure))
                self.assertIs(is_one(puzzle, order), len(found) == 1)
        self.assertGreater(nothing, 20)

    def test_without_an_answer(self):
        self.assertEqual(sure_values(made.TRIO, (0, 1, 2)), ())
        self.assertEqual(sure_values((((4,), ()), ()), (0, 1)), ())
        self.assertEqual(shares_by((((4,), ()), ()), (0, 1)), (((4, 0),), ()))
        self.assertEqual(shares_by(made.TRIO, (1, 2, 0)), (((1, 0), (2, 0)),) * 3)
        self.assertEqual((is_one(made.TRIO, (0, 1, 2)), is_one((((4,), ()), ()), (1, 0))), (False, False))

    def test_cells_without_rules(self):
        puzzle = (((1, 2), (5,), (0, 7)), (("below", 0, 2),))
        for order in permutations(range(3)):
            self.assertEqual(shares_by(puzzle, order), (((1, 1), (2, 1)), ((5, 2),), ((0, 0), (7, 2))))
            self.assertEqual(sure_values(puzzle, order), ((1, 5), (2, 7)))
            self.assertTrue(is_one(only_at(puzzle, 0, [2]), order))

    def test_many_answers(self):
        line = (((1, 2, 3, 4),) * 16, tuple(("unlike", (c, c + 1)) for c in range(15)))
        order = tuple(range(0, 16, 2)) + tuple(range(1, 16, 2))
        self.assertEqual(shares_by(line, order), (tuple((v, 3 ** 15) for v in (1, 2, 3, 4)),) * 16)


class JudgeTest(unittest.TestCase):
    ORDER = (0, 2, 1)

    def test_form(self):
        right = steps_of(made.TOLD, self.ORDER)
        self.assertIsNone(judge_steps(made.TOLD, self.ORDER, right))
        for value in made.STRANGE + made.DEEP + (list(right), right[:2], right + right[:1], (), right[:2] + (None,), right[:2] + (list(right[2]),)):
            self.assertEqual(judge_steps(made.TOLD, self.ORDER, value), ("form",), value)
        self.assertEqual(judge_steps(made.TOLD, self.ORDER, (None, (), right[2])), ("form",))
        self.assertEqual(judge_steps(made.TOLD, self.ORDER, right[:2] + (right[2][:2],)), ("form",))
        self.assertEqual(judge_steps(made.TOLD, self.ORDER, right[:2] + (right[2] + (0,),)), ("form",))

    def test_the_least_step_that_is_not_right(self):
        right = steps_of(made.TOLD, self.ORDER)
        odd = (None, None, None)
        self.assertEqual(judge_steps(made.TOLD, self.ORDER, (odd, odd, odd)), ("step", 0))
        self.assertEqual(judge_steps(made.TOLD, self.ORDER, (right[0], odd, odd)), ("step", 1))
        self.assertEqual(judge_steps(made.TOLD, self.ORDER, right[:2] + (odd,)), ("step", 2))
        self.assertEqual(judge_steps(made.TOLD, self.ORDER, steps_of(made.TOLD, (0, 1, 2))), ("step", 1))
        self.assertEqual(judge_steps(made.TOLD, self.ORDER, steps_of(made.FREE, (0, 1)) + right[2:]), ("step", 0))

    def test_integers_and_tuples_all_through(self):
        puzzle = (((0, 1), (0, 1)), (("below", 0, 1),))
        (one, lot, (cells, rows)), last = right = steps_of(puzzle, (0, 1))
        self.assertEqual(right, ((0, (0, 1), ((1,), (((1,), 1),))), (1, (1,), ((), (((), 1),)))))
        for wrong in (
            (False, lot, (cells, rows)), (one, (False, True), (cells, rows)), (one, [0, 1], (cells, rows)), (one, lot, [cells, rows]),
            (one, lot, ((True,), rows)), (one, lot, ([1], rows)), (one, lot, (cells, (((1,), True),))), (one, lot, (cells, (((True,), 1),))),
            (one, lot, (cells, (([1], 1),))), (one, lot, (cells, ([(1,), 1],))), (one, lot, (cells, [((1,), 1)])), (one, lot, (cells, ())),
            (one, lot, (cells, rows + rows)), (one, lot, (cells, rows, ())), (one, lot, (cells,)), (one, lot, 1), (one, lot, (cells, (((1,), 1.0),))),
        ):
            self.assertEqual(judge_steps(puzzle, (0, 1), (wrong, last)), ("step", 0), wrong)
            self.assertEqual(judge_steps(puzzle, (0, 1), (wrong, None)), ("form",), wrong)

    def test_each_small_change(self):
        dice = random.Random(408)
        for puzzle in made.made_puzzles(408, 12, most_cells=3, most_values=2, most_rules=2):
            order = some_orders(dice, puzzle, 1)[0]
            right = steps_of(puzzle, order)
            self.assertIsNone(judge_steps(puzzle, order, right))
            for value in made.some(made.changed(right), 200, dice):
                fault = judge_steps(puzzle, order, value)
                if repr(value) == repr(right):
                    self.assertIsNone(fault)
                elif not isinstance(value, tuple) or len(value) != len(order) or any(type(s) is not tuple or len(s) != 3 for s in value):
                    self.assertEqual(fault, ("form",), value)
                else:
                    first = [i for i, step in enumerate(value) if repr(step) != repr(right[i])][0]
                    self.assertEqual(fault, ("step", first), value)


if __name__ == "__main__":
    unittest.main()
