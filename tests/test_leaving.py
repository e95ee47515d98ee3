"""Dead values left out of domains ([8.3])."""

import random
import unittest

import made
import oracle
import oracle_live
from cases import FOUR, ROW
from toldreasons.books import greatest_book
from toldreasons.leaving import dead_strikes, judge_dead, live_domains

PUZZLE = (((0, 1, 2),) * 3, (("unlike", (0, 1)), ("unlike", (1, 2)), ("unlike", (0, 2)), ("below", 0, 1)))
# Cells 0 and 1 lose all values; cells 2 and 3 share no rule with them.
SPLIT = (((1, 2), (0, 1), (0, 1), (0, 1)), (("below", 2, 3), ("below", 0, 1)))
# Rule 1 leaves out what makes values dead for rule 0 in the next turn.
TURNS = (((0, 1, 2),) * 3, (("below", 1, 2), ("below", 0, 1)))
CASES = made.PUZZLES + (PUZZLE, SPLIT, TURNS, ROW, FOUR) + tuple(made.made_puzzles(86, 120, most_cells=5, most_rules=5, empty=0.02))


class LiveDomainsTest(unittest.TestCase):
    def test_by_hand(self):
        self.assertEqual(live_domains(PUZZLE), ((0, 1), (1, 2), (0, 1, 2)))
        self.assertEqual(live_domains(TURNS), ((0,), (1,), (2,)))
        self.assertEqual(live_domains(made.TRIO), made.TRIO[0])
        self.assertEqual(live_domains(made.BARE), ((4,), (2, 7)))

    def test_all_are_empty_where_some_cell_loses_all(self):
        self.assertEqual(live_domains(SPLIT), ((), (), (), ()))
        self.assertEqual(live_domains(made.EMPTY), ((), (), ()))
        self.assertEqual(live_domains((((0, 1), ()), ())), ((), ()))
        self.assertEqual(live_domains((((),), ())), ((),))

    def test_the_same_whatever_the_sequence(self):
        dice = random.Random(87)
        for puzzle in CASES:
            for _ in range(3):
                self.assertEqual(live_domains(puzzle), oracle_live.left_out(puzzle, dice), puzzle)
            mixed = list(puzzle[1])
            dice.shuffle(mixed)
            self.assertEqual(live_domains((puzzle[0], tuple(mixed))), live_domains(puzzle))

    def test_each_answer_keeps_its_values(self):
        for puzzle in CASES:
            left = live_domains(puzzle)
            for values in oracle.answers(puzzle):
                self.assertTrue(all(value in left[c] for c, value in enumerate(values)))

    def test_what_strength_1_leaves(self):
        for puzzle in CASES:
            book = greatest_book(puzzle, 1)
            left = tuple(tuple(v for v in domain if ((c, v),) in book) for c, domain in enumerate(puzzle[0]))
            self.assertEqual(live_domains(puzzle), left, puzzle)


class DeadStrikesTest(unittest.TestCase):
    def test_by_hand(self):
        self.assertEqual(dead_strikes(PUZZLE), ((3, 0, 2), (3, 1, 0)))
        self.assertEqual(dead_strikes(made.BARE), ())
        self.assertEqual(dead_strikes((((0, 1), ()), ())), ())
        # Behind the last rule number 0 is taken again, as long as a turn leaves out something.
        self.assertEqual(dead_strikes(TURNS), ((0, 1, 2), (0, 2, 0), (1, 0, 1), (1, 0, 2), (1, 1, 0), (0, 2, 1)))

    def test_ascending_by_cell_and_value_within_a_rule(self):
        puzzle = (((5, 6), (5, 6), (1, 9)), (("sum", (2, 1, 0), 11, 11),))
        self.assertEqual(dead_strikes(puzzle), ((0, 0, 6), (0, 1, 6), (0, 2, 9)))

    def test_also_once_some_domain_is_empty(self):
        # Cell 0 has no value of 0 and 1 that is below; then all values of those beside it are dead as well.
        self.assertEqual(dead_strikes(SPLIT), ((0, 2, 1), (0, 3, 0), (1, 0, 1), (1, 0, 2), (1, 1, 0), (1, 1, 1)))
        self.assertEqual(dead_strikes(made.EMPTY), ((1, 0, 1), (1, 0, 2), (0, 2, 3)))
        self.assertEqual(dead_strikes((((), (1, 2), (1,)), (("unlike", (1, 2)), ("unlike", (0, 1))))),
                         ((0, 1, 1), (1, 1, 2), (0, 2, 1)))

    def test_as_the_oracle_tells(self):
        for puzzle in CASES:
            strikes = dead_strikes(puzzle)
            self.assertEqual(strikes, oracle_live.dead_strikes(puzzle), puzzle)
            self.assertIsNone(judge_dead(puzzle, strikes))
            self.assertIsNone(oracle_live.judge_dead(puzzle, strikes))


class JudgeDeadTest(unittest.TestCase):
    def test_right_ones(self):
        self.assertIsNone(judge_dead(PUZZLE, ((3, 1, 0), (3, 0, 2))))
        self.assertIsNone(judge_dead(made.BARE, ()))
        self.assertIsNone(judge_dead((((), (1,)), ()), ()))

    def test_any_sequence_is_let(self):
        dice = random.Random(88)
        for puzzle in CASES:
            domains, strikes = puzzle[0], []
            while True:
                found = [(j, c, v) for j, rule in enumerate(puzzle[1]) for c, v in oracle_live.dead(domains, rule)]
                fault = judge_dead(puzzle, tuple(strikes))
                self.assertEqual(fault, ("more",) + min(found) if found else None)
                if not found:
                    break
                strikes.append(dice.choice(found))
                domains = oracle_live.without(domains, *strikes[-1][1:])

    def test_form(self):
        good = ((3, 0, 2), (3, 1, 0))
        for value in (None, True, [], {}, 0, "", list(good), (None,), ((3, 0),), ((3, 0, 2, 0),), ([3, 0, 2],), ((4, 0, 2),), ((-1, 0, 2),),
                      ((True, 1, 2),), ((3, False, 2),), ((3, 0, True),), ((3, 0, "2"),), ((3, 2, 0),), ((0, 2, 0),), ((3, 0, (2,)),),
                      ((3, 0, None),), ((made.BIG, 0, 0),), ((3, made.BIG, 0),), ((3, -1, 0),), good + ((1, 0, 0),), good + (3,), ((0, 0, 1), None)):
            self.assertEqual(judge_dead(PUZZLE, value), ("form",), value)

    def test_stands_and_live(self):
        self.assertEqual(judge_dead(PUZZLE, ((3, 0, 2), (3, 0, 2))), ("stands", 1))
        self.assertEqual(judge_dead(PUZZLE, ((3, 0, 9),)), ("stands", 0))
        self.assertEqual(judge_dead(PUZZLE, ((3, 0, made.BIG),)), ("stands", 0))
        self.assertEqual(judge_dead(PUZZLE, ((3, 0, -2),)), ("stands", 0))
        self.assertEqual(judge_dead(PUZZLE, ((0, 0, 1),)), ("live", 0))
        self.assertEqual(judge_dead(PUZZLE, ((3, 0, 1),)), ("live", 0))
        # It is dead for rule 3, not for rule 0.
        self.assertEqual(judge_dead(PUZZLE, ((0, 0, 2),)), ("live", 0))
        self.assertEqual(judge_dead(PUZZLE, ((3, 0, 2), (0, 0, 2))), ("stands", 1))
        self.assertEqual(judge_dead(PUZZLE, ((3, 0, 2), (0, 0, 1), (3, 0, 2))), ("live", 1))
        self.assertEqual(judge_dead(PUZZLE, ((3, 0, 2), (3, 0, 2), (0, 0, 1))), ("stands", 1))
        # What is dead only behind others is live ahead of them.
        self.assertEqual(judge_dead(TURNS, ((0, 2, 1),)), ("live", 0))
        self.assertIsNone(judge_dead(TURNS, ((0, 1, 2), (0, 2, 0), (1, 0, 1), (1, 0, 2), (1, 1, 0), (0, 2, 1))))

    def test_more(self):
        self.assertEqual(judge_dead(PUZZLE, ()), ("more", 3, 0, 2))
        self.assertEqual(judge_dead(PUZZLE, ((3, 0, 2),)), ("more", 3, 1, 0))
        self.assertEqual(judge_dead(TURNS, ()), ("more", 0, 1, 2))
        self.assertEqual(judge_dead(TURNS, ((0, 1, 2), (0, 2, 0))), ("more", 1, 0, 1))
        self.assertEqual(judge_dead(made.EMPTY, ()), ("more", 1, 0, 1))
        self.assertEqual(judge_dead(SPLIT, ((1, 0, 1), (1, 0, 2))), ("more", 0, 2, 1))

    def test_any_value(self):
        for puzzle in (PUZZLE, made.BARE, made.EMPTY):
            for value in made.STRANGE + made.DEEP:
                for shown in (value, (value,), ((value, 0, 2),), ((3, value, 2),), ((3, 0, value),), ((3, 0, 2), value)):
                    self.assertEqual(judge_dead(puzzle, shown), oracle_live.judge_dead(puzzle, shown), shown)

    def test_small_changes(self):
        dice = random.Random(89)
        for puzzle in CASES:
            for value in made.some(made.changed(dead_strikes(puzzle)), 25, dice):
                self.assertEqual(judge_dead(puzzle, value), oracle_live.judge_dead(puzzle, value), (puzzle, value))


if __name__ == "__main__":
    unittest.main()
