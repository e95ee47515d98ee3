"""Told reasons: parts, chains and rounds ([4.2] to [4.6])."""

import random
import unittest

import made
import oracle
from cases import CASES, FOUR, ROUNDS, ROW
from toldreasons.errors import NoReason
from toldreasons.reasons import (
    all_parts, chain_for, chain_rounds, clash_rounds, clashes, does_clash, judge_chain, needed_steps, part_rounds,
    read_off, round_of, strength_in,
)

CHAIN = ((((0, 1),), ("rule", 0), ()), (((0, 1),), ("cell", 1), (0, 0)))


class AllPartsTest(unittest.TestCase):
    def test_small_ones(self):
        self.assertEqual(all_parts(made.PAIR, 1), ((), ((0, 0),), ((0, 1),), ((1, 0),), ((1, 1),)))
        self.assertEqual(all_parts((((5,),), ()), 1), ((), ((0, 5),)))

    def test_empty_domains(self):
        self.assertEqual(all_parts((((), ()), ()), 2), ((),))
        self.assertEqual(all_parts(((((), (3,), ())), ()), 2), ((), ((1, 3),)))

    def test_more_than_there_are_cells(self):
        self.assertEqual(all_parts(made.PAIR, 4), all_parts(made.PAIR, 2))
        self.assertEqual(len(all_parts(made.TRIO, 4)), 27)

    def test_as_the_oracle_tells(self):
        for puzzle, k in CASES:
            self.assertEqual(all_parts(puzzle, k), oracle.parts(puzzle, k))

    def test_many(self):
        eight = (((0, 1, 2, 3),) * 8, ())
        self.assertEqual(all_parts(eight, 2), oracle.parts(eight, 2))


class JudgeChainTest(unittest.TestCase):
    def test_none_is_a_chain(self):
        for puzzle in made.PUZZLES:
            self.assertIsNone(judge_chain(puzzle, 1, ()))

    def test_no_tuple(self):
        for value in (None, True, [], list(CHAIN), {}, "", "chain", 0, {0: CHAIN[0]}):
            self.assertEqual(judge_chain(made.PAIR, 1, value), ("form",), value)

    def test_form(self):
        for step in (None, (), [], (((0, 1),), ("rule", 0)), (((0, 1),), ("rule", 0), (), ()), [((0, 1),), ("rule", 0), ()],
                     (((0, 2),), ("rule", 0), ()), (((0, 1), (1, 1)), ("rule", 0), ()), ([(0, 1)], ("rule", 0), ()),
                     (((0, True),), ("rule", 0), ()), (((0, 1),), ("rule", 1), ()), (((0, 1),), ("rule", -1), ()),
                     (((0, 1),), ("cell", 2), ()), (((0, 1),), ["rule", 0], ()), (((0, 1),), ("rule", False), ()),
                     (((0, 1),), ("rule", 0, 0), ()), (((0, 1),), ("row", 0), ()), (((0, 1),), None, ()),
                     (((0, 1),), ("rule", 0), []), (((0, 1),), ("rule", 0), None), (((0, 1),), ("rule", 0), (1,)),
                     (((0, 1),), ("rule", 0), (-1,)), (((0, 1),), ("rule", 0), (True,)), (((0, 1),), ("rule", 0), (None,)),
                     (((0, 1),), (["rule"], 0), ()), (((0, 1),), ("cell", False), (0, 0))):
            self.assertEqual(judge_chain(made.PAIR, 1, (CHAIN[0], step)), ("form", 1), step)
            self.assertEqual(judge_chain(made.PAIR, 1, (step,)), ("form", 0), step)

    def test_uses_tell_earlier_steps_alone(self):
        late = (((1, 0),), ("cell", 0), (0, 1))
        self.assertEqual(judge_chain(made.PAIR, 1, (CHAIN[0], late)), ("form", 1))
        self.assertEqual(judge_chain(made.PAIR, 1, (CHAIN[0], CHAIN[0], late)), ("lies", 2, 0))
        self.assertEqual(judge_chain(made.PAIR, 1, (CHAIN[0], CHAIN[0], (((0, 1),), ("cell", 1), (False, True)))), ("form", 2))

    def test_strength(self):
        part = ((0, 1), (1, 1))
        self.assertEqual(judge_chain(made.TRIO, 1, ((part, ("rule", 0), ()),)), ("form", 0))
        self.assertIsNone(judge_chain(made.TRIO, 2, ((part, ("rule", 0), ()),)))
        self.assertIsNone(judge_chain(made.TRIO, 4, ((part, ("rule", 0), ()),)))

    def test_uses(self):
        self.assertEqual(judge_chain(made.PAIR, 1, ((((0, 0),), ("rule", 0), ()),)), ("uses", 0))
        self.assertEqual(judge_chain(made.PAIR, 1, (CHAIN[0], (((0, 1),), ("cell", 1), (0,)))), ("uses", 1))
        self.assertEqual(judge_chain(made.PAIR, 1, (CHAIN[0], (((0, 1),), ("cell", 1), (0, 0, 0)))), ("uses", 1))
        self.assertEqual(judge_chain(made.PAIR, 1, (CHAIN[0], (((0, 1),), ("rule", 0), (0,)))), ("uses", 1))
        self.assertIsNone(judge_chain(made.EMPTY, 1, (((), ("cell", 1), ()),)))
        self.assertIsNone(judge_chain(made.EMPTY, 1, (((), ("rule", 1), ()),)))

    def test_lies(self):
        other = (((1, 0),), ("rule", 0), ())
        for uses, fault in (((0, 1), None), ((1, 0), ("lies", 2, 0)), ((0, 0), ("lies", 2, 1)), ((1, 1), ("lies", 2, 0))):
            puzzle = (((0, 1), (0, 1)), (("below", 0, 1), ("sum", (0, 1), 5, 9)))
            first = (((0, 0),), ("rule", 1), ())
            second = (((0, 1),), ("rule", 0), ())
            self.assertEqual(judge_chain(puzzle, 1, (first, second, ((), ("cell", 0), uses))), fault)
        self.assertEqual(judge_chain(made.PAIR, 1, (CHAIN[0], other, ((), ("cell", 0), (1, 0)))), ("lies", 2, 0))
        # The part of a used step may lie in the part together with the filling, in neither alone.
        split = (((0, 1), (1, 1)), ("rule", 0), ())
        again = (((0, 1), (1, 2)), ("rule", 1), ())
        self.assertEqual(judge_chain(made.TRIO, 2, (split, (((0, 1),), ("cell", 1), (0, 0)))), ("lies", 1, 1))
        self.assertEqual(judge_chain(made.TRIO, 2, (split, again)), ("uses", 1))

    def test_least_step_and_its_first_kind(self):
        bad = (((0, 0),), ("rule", 0), ())
        self.assertEqual(judge_chain(made.PAIR, 1, (bad, None)), ("uses", 0))
        self.assertEqual(judge_chain(made.PAIR, 1, (None, bad)), ("form", 0))
        self.assertEqual(judge_chain(made.PAIR, 1, (CHAIN[0], bad, None)), ("uses", 1))
        other = (((1, 0),), ("rule", 0), ())
        self.assertEqual(judge_chain(made.PAIR, 1, (other, CHAIN[1], bad)), ("lies", 1, 1))
        self.assertEqual(judge_chain(made.PAIR, 1, (other, (((0, 0),), ("cell", 1), (0, 0)), None)), ("lies", 1, 1))
        self.assertEqual(judge_chain(made.PAIR, 1, (CHAIN[0], (((0, 0),), ("cell", 1), (0, 1)))), ("form", 1))

    def test_any_value(self):
        for puzzle in made.PUZZLES:
            for value in made.STRANGE + made.DEEP:
                for k in (1, 2):
                    self.assertEqual(judge_chain(puzzle, k, value), oracle.judge_chain(puzzle, k, value), value)
                    self.assertEqual(judge_chain(puzzle, k, (value,)), oracle.judge_chain(puzzle, k, (value,)), value)

    def test_small_changes(self):
        dice = random.Random(7)
        for puzzle, k, rounds in ROUNDS:
            for part in made.some(rounds, 2, dice):
                chain = chain_for(puzzle, k, part)
                for value in made.some(made.changed(chain), 40, dice):
                    self.assertEqual(judge_chain(puzzle, k, value), oracle.judge_chain(puzzle, k, value), (puzzle, value))

    def test_does_clash(self):
        self.assertIs(does_clash(CHAIN), False)
        self.assertIs(does_clash((((), ("cell", 1), ()),)), True)
        self.assertIs(does_clash((((), ("cell", 1), ()), (((0, 1),), ("cell", 1), ()))), False)
        self.assertIs(does_clash(chain_for(made.TRIO, 2, ())), True)


class RoundsTest(unittest.TestCase):
    def test_by_hand(self):
        self.assertEqual(part_rounds(made.PAIR, 1), ((((0, 1),), 1), (((1, 0),), 1)))
        self.assertEqual(part_rounds(ROW, 1), (
            (((0, 1),), 2), (((0, 2),), 1), (((1, 0),), 1), (((1, 2),), 1), (((2, 0),), 1), (((2, 1),), 2)))
        self.assertEqual(part_rounds(made.FREE, 1), ())
        self.assertEqual(part_rounds(made.FREE, 2), ((((0, 1), (1, 1)), 1), (((0, 2), (1, 2)), 1)))
        self.assertEqual([round_of(made.TRIO, 2, part) for part in ((), ((1, 2),), ((0, 1), (2, 1)), ((0, 1), (2, 2)))],
                         [3, 2, 1, 2])

    def test_a_part_without_its_own_no_good(self):
        self.assertIsNone(round_of(made.PAIR, 1, ()))
        self.assertIsNone(round_of(made.PAIR, 1, ((0, 0),)))
        self.assertIsNone(round_of(made.TRIO, 1, ((0, 1),)))
        self.assertEqual(round_of(made.PAIR, 2, ((0, 1), (1, 1))), 1)

    def test_empty_domains_make_all_parts_no_goods_at_once(self):
        for k in (1, 2, 3):
            self.assertEqual(part_rounds(made.EMPTY, k), tuple((part, 1) for part in oracle.parts(made.EMPTY, k)))
        self.assertEqual(clash_rounds((((),), ()), 1), 1)

    def test_of_many_rounds(self):
        self.assertEqual(clash_rounds(made.TRIO, 2), 3)
        self.assertEqual([clashes(FOUR, k) for k in (1, 2, 3)], [False, True, True])
        for k in (1, 2):
            self.assertEqual(dict(part_rounds(FOUR, k)), oracle.rounds(FOUR, k))
        for many in (2, 4, 7, 9):
            ring = ((tuple(range(many)),) * 3, (("below", 0, 1), ("below", 1, 2), ("below", 2, 0)))
            self.assertEqual(dict(part_rounds(ring, 1)), oracle.rounds(ring, 1))
            self.assertEqual(clash_rounds(ring, 1), many // 2 + 1)

    def test_as_the_oracle_tells(self):
        dice = random.Random(8)
        for puzzle, k, rounds in ROUNDS:
            self.assertEqual(part_rounds(puzzle, k), tuple(sorted(rounds.items())), (puzzle, k))
            for part in made.some(oracle.parts(puzzle, k), 8, dice):
                self.assertEqual(round_of(puzzle, k, part), rounds.get(part))

    def test_who_holds_a_no_good_holds_it_no_later(self):
        for puzzle, k, rounds in ROUNDS:
            for part in oracle.parts(puzzle, k):
                held = [rounds[piece] for piece in oracle.pieces(part, k) if piece in rounds]
                self.assertEqual(round_of(puzzle, k, part) if len(rounds) < 20 else rounds.get(part),
                                 min(held) if held else None)

    def test_greater_strengths_strike_no_later(self):
        for puzzle, k, rounds in ROUNDS:
            if len(puzzle[0]) < 4:
                greater = dict(part_rounds(puzzle, k + 1))
                for part, number in part_rounds(puzzle, k):
                    self.assertLessEqual(greater[part], number)

    def test_a_no_good_lies_in_no_answer(self):
        for puzzle, k, rounds in ROUNDS:
            for values in oracle.answers(puzzle):
                for part, number in part_rounds(puzzle, k):
                    self.assertFalse(all(values[c] == value for c, value in part))


class ChainForTest(unittest.TestCase):
    def assert_chain(self, puzzle, k, part, number):
        chain = chain_for(puzzle, k, part)
        self.assertIsNone(oracle.judge_chain(puzzle, k, chain))
        self.assertIsNone(judge_chain(puzzle, k, chain))
        self.assertEqual(chain[-1][0], part)
        self.assertEqual(len({step[0] for step in chain}), len(chain))
        used = {use for step in chain for use in step[2]}
        self.assertEqual(used, set(range(len(chain) - 1)))
        self.assertEqual(chain_rounds(chain), number)
        self.assertEqual(needed_steps(chain), chain)
        self.assertLessEqual(strength_in(chain), k)

    def test_each_no_good_has_one(self):
        dice = random.Random(9)
        for puzzle, k, rounds in ROUNDS:
            for part in made.some(rounds, 6, dice):
                self.assert_chain(puzzle, k, part, rounds[part])

    def test_clashes_of_greater_puzzles(self):
        self.assert_chain(FOUR, 3, (), clash_rounds(FOUR, 3))
        self.assert_chain(made.TRIO, 3, (), clash_rounds(made.TRIO, 3))

    def test_no_reason(self):
        for puzzle, k, rounds in ROUNDS:
            for part in [part for part in oracle.parts(puzzle, k) if part not in rounds][:4]:
                with self.assertRaises(NoReason):
                    chain_for(puzzle, k, part)


class StepsTest(unittest.TestCase):
    LONG = (
        (((0, 2),), ("rule", 0), ()),
        (((1, 0),), ("rule", 0), ()),
        (((2, 0),), ("rule", 1), ()),
        (((1, 2),), ("rule", 1), ()),
        (((0, 1),), ("rule", 0), (3,)),
        (((2, 1),), ("rule", 1), (1,)),
        (((0, 1),), ("cell", 1), (1, 4, 3)),
    )

    def test_the_long_chain_is_one(self):
        self.assertIsNone(judge_chain(ROW, 1, self.LONG))

    def test_chain_rounds(self):
        self.assertEqual([chain_rounds(self.LONG[:end]) for end in range(1, 8)], [1, 1, 1, 1, 2, 2, 3])

    def test_needed_steps(self):
        self.assertEqual(needed_steps(self.LONG), (
            (((1, 0),), ("rule", 0), ()),
            (((1, 2),), ("rule", 1), ()),
            (((0, 1),), ("rule", 0), (1,)),
            (((0, 1),), ("cell", 1), (0, 2, 1)),
        ))
        self.assertEqual(needed_steps(self.LONG[:6]), (self.LONG[1], (((2, 1),), ("rule", 1), (0,))))
        self.assertEqual(needed_steps(self.LONG[:3]), (self.LONG[2],))
        self.assertEqual(needed_steps(CHAIN), CHAIN)

    def test_needed_steps_are_a_chain_to_the_same_part(self):
        for puzzle, k, rounds in ROUNDS:
            chain = ()
            for part in sorted(rounds, key=lambda part: (rounds[part], part))[:12]:
                more = chain_for(puzzle, k, part)
                moved = [(step[0], step[1], tuple(use + len(chain) for use in step[2])) for step in more]
                chain += tuple(moved)
                self.assertIsNone(judge_chain(puzzle, k, chain))
                self.assertEqual(needed_steps(chain), more)
                self.assertEqual(chain_rounds(chain), rounds[part])

    def test_strength_in(self):
        self.assertEqual(strength_in(self.LONG), 1)
        self.assertEqual(strength_in((((), ("cell", 1), ()),)), 0)
        split = (((0, 1), (1, 1)), ("rule", 0), ())
        self.assertEqual(strength_in((split, (((0, 1),), ("rule", 0), ()))), 2)
        self.assertEqual(strength_in(chain_for(made.TRIO, 2, ())), 2)


class ClashTest(unittest.TestCase):
    def test_clashes_and_their_rounds(self):
        for puzzle, k, rounds in ROUNDS:
            self.assertIs(clashes(puzzle, k), () in rounds)
            self.assertEqual(clash_rounds(puzzle, k), rounds.get(()))

    def test_all_cells_clash_without_answers(self):
        for puzzle in made.PUZZLES[:6] + tuple(made.made_puzzles(32, 40, most_cells=3)):
            self.assertIs(clashes(puzzle, len(puzzle[0])), not oracle.answers(puzzle))

    def test_read_off(self):
        self.assertEqual([read_off(ROW, 1, c) for c in range(3)], [(0,), (1,), (2,)])
        self.assertEqual([read_off(made.TRIO, k, 0) for k in (1, 2)], [(1, 2), ()])
        self.assertEqual(read_off(made.EMPTY, 1, 1), ())
        self.assertEqual(read_off(made.EMPTY, 1, 0), ())
        for puzzle, k, rounds in ROUNDS:
            for c, domain in enumerate(puzzle[0]):
                left = read_off(puzzle, k, c)
                self.assertEqual(left, tuple(value for value in domain if ((c, value),) not in rounds))
                self.assertLessEqual({values[c] for values in oracle.answers(puzzle)}, set(left))


if __name__ == "__main__":
    unittest.main()
