"""Strengths, hints and their papers ([6.1] to [6.5])."""

import random
import unittest

import made
import oracle
import oracle_game
from cases import FOUR, ROUNDS, ROW
from toldreasons.books import both_books, greatest_book
from toldreasons.reasons import chain_for, judge_chain, needed_steps
from toldreasons.strength import (
    first_reason, hint, joined_chains, judge_strength, least_clash, least_solving, left_by, profile, strength_paper,
    struck_by, verdict,
)

TOLD = (((1,), (1, 2), (1, 2, 3)), (("unlike", (0, 1)), ("unlike", (0, 1, 2))))
# One answer, (0, 2, 1), that reasons which hold one cell alone do not tell: two cells have to be held.
PAIRED = (((0, 1, 2),) * 3, (("below", 0, 1), ("sum", (0, 1), 2, 2), ("below", 0, 2), ("unlike", (1, 2))))
# The same behind a cell with a value that strength 1 strikes.
BEHIND = (((5, 6),) + PAIRED[0], (("sum", (0,), 6, 6), ("below", 1, 2), ("sum", (1, 2), 2, 2), ("below", 1, 3), ("unlike", (2, 3))))
# Strength 1 clashes, but not in its first round.
ROUND = (((0, 1, 2),) * 3, (("below", 0, 1), ("below", 1, 2), ("below", 2, 0)))
LATE = (((0, 1),) * 3, (("table", (0, 1), ((0, 0), (1, 1))), ("table", (1, 2), ((0, 0), (1, 1))),
                        ("table", (0, 2), ((0, 0), (0, 1), (1, 0)))))
SMALL = [puzzle for puzzle in made.PUZZLES if len(puzzle[0]) < 4] + made.made_puzzles(61, 60, most_cells=3) + [TOLD, PAIRED, LATE]
PAPERS = {}


def paper_of(puzzle):
    if puzzle not in PAPERS:
        PAPERS[puzzle] = strength_paper(puzzle)
    return PAPERS[puzzle]


class VerdictTest(unittest.TestCase):
    def test_by_hand(self):
        self.assertEqual(left_by(ROW, 1), ((0,), (1,), (2,)))
        self.assertEqual(struck_by(ROW, 1), ((0, 1), (0, 2), (1, 0), (1, 2), (2, 0), (2, 1)))
        self.assertEqual(verdict(ROW, 1), ("solved", (0, 1, 2)))
        self.assertEqual([verdict(made.TRIO, k) for k in (1, 2, 3)], [("open",), ("clash",), ("clash",)])
        self.assertEqual([left_by(made.TRIO, k) for k in (1, 2)], [((1, 2),) * 3, ((), (), ())])
        self.assertEqual(verdict(made.FREE, 2), ("open",))
        self.assertEqual(verdict((((4,), (7,)), ()), 1), ("solved", (4, 7)))
        self.assertEqual([verdict(PAIRED, k) for k in (1, 2)], [("open",), ("solved", (0, 2, 1))])

    def test_a_clash_goes_ahead_of_what_is_left(self):
        for puzzle in (made.EMPTY, (((),), ()), (((1,), ()), ())):
            for k in (1, 2, 3):
                self.assertEqual(verdict(puzzle, k), ("clash",))
        self.assertEqual(left_by(made.EMPTY, 1), ((), (), ()))
        self.assertEqual(struck_by(made.EMPTY, 1), ((0, 1), (0, 2), (2, 3)))
        self.assertEqual((left_by((((),), ()), 1), struck_by((((),), ()), 1)), (((),), ()))
        # One value each, that a rule does not let: () is a no-good, so they are struck as well.
        apart = (((1,), (1,)), (("unlike", (0, 1)),))
        self.assertEqual((verdict(apart, 1), left_by(apart, 1)), (("clash",), ((), ())))

    def test_as_the_oracle_tells(self):
        for puzzle, k, rounds in ROUNDS:
            struck = tuple(pair for pair in oracle_game.pairs(puzzle) if (pair,) in rounds)
            self.assertEqual(struck_by(puzzle, k), struck)
            left = tuple(tuple(v for v in domain if (c, v) not in struck) for c, domain in enumerate(puzzle[0]))
            self.assertEqual(left_by(puzzle, k), left)
            self.assertEqual(verdict(puzzle, k), oracle_game.verdict(puzzle, rounds))

    def test_what_is_solved_is_the_one_answer(self):
        for puzzle, k, rounds in ROUNDS:
            told = verdict(puzzle, k)
            if told[0] == "solved":
                self.assertEqual(oracle.answers(puzzle), told[1:])
            if told[0] == "clash":
                self.assertEqual(oracle.answers(puzzle), ())


class StrengthsRiseTest(unittest.TestCase):
    def test_by_hand(self):
        self.assertEqual([least_clash(puzzle) for puzzle in (made.TRIO, FOUR, made.FREE, TOLD, made.EMPTY)], [2, 2, None, None, 1])
        self.assertEqual([least_solving(puzzle) for puzzle in (made.TRIO, made.FREE, TOLD, ROW, PAIRED)], [None, None, 1, 1, 2])
        self.assertEqual((least_clash((((),), ())), least_solving((((),), ()))), (1, None))
        self.assertEqual((least_clash((((9,),), ())), least_solving((((9,),), ()))), (None, 1))

    def test_profile(self):
        self.assertEqual(profile(made.TRIO, 2), ((1, 0, 0, "open"), (2, 6, 3, "clash")))
        self.assertEqual(profile(ROW, 1), ((1, 6, 2, "solved"),))
        self.assertEqual(profile(made.FREE, 3), ((1, 0, 0, "open"), (2, 0, 1, "open"), (3, 0, 1, "open")))
        self.assertEqual(profile((((),), ()), 1), ((1, 0, 1, "clash"),))

    def test_as_the_oracle_tells(self):
        for puzzle in SMALL:
            self.assertEqual(least_clash(puzzle), oracle_game.least_strength(puzzle, "clash"))
            self.assertEqual(least_solving(puzzle), oracle_game.least_strength(puzzle, "solved"))
            self.assertEqual(least_clash(puzzle) is not None, len(oracle.answers(puzzle)) == 0)
            self.assertEqual(least_solving(puzzle) is not None, len(oracle.answers(puzzle)) == 1)
            rows = []
            for k in (1, 2, 3):
                rounds = oracle.rounds(puzzle, k)
                struck = len([pair for pair in oracle_game.pairs(puzzle) if (pair,) in rounds])
                rows.append((k, struck, max(rounds.values(), default=0), oracle_game.verdict(puzzle, rounds)[0]))
            self.assertEqual([profile(puzzle, most) for most in (1, 2, 3)], [tuple(rows[:most]) for most in (1, 2, 3)])

    def test_what_is_struck_stays_so(self):
        for puzzle in SMALL:
            struck = [set(struck_by(puzzle, k)) for k in (1, 2, 3)]
            self.assertTrue(struck[0] <= struck[1] <= struck[2])
            told = [verdict(puzzle, k) for k in (1, 2, 3)]
            for one, other in zip(told, told[1:]):
                self.assertTrue(one == other or one == ("open",), (puzzle, told))


class HintsTest(unittest.TestCase):
    def test_joined_chains(self):
        self.assertEqual(joined_chains(made.TRIO, 2, ()), ())
        self.assertEqual(joined_chains(TOLD, 1, (((1, 1),), ((1, 1),))), (((((1, 1),), ("rule", 0), ())),))
        one = chain_for(ROW, 1, ((0, 1),))
        self.assertEqual(joined_chains(ROW, 1, (((0, 1),),)), one)
        self.assertEqual(joined_chains(ROW, 1, (((0, 1),), ((1, 2),), ((0, 1),))), one)
        # A part that is a step of a chain ahead stands once, ahead of what needs it.
        self.assertEqual(joined_chains(ROW, 1, (((2, 0),), ((2, 1),))), (
            (((2, 0),), ("rule", 1), ()), (((1, 0),), ("rule", 0), ()), (((2, 1),), ("rule", 1), (1,))))
        self.assertEqual(joined_chains(ROW, 1, (((1, 0),), ((2, 1),))), (
            (((1, 0),), ("rule", 0), ()), (((2, 1),), ("rule", 1), (0,))))

    def test_joined_chains_are_chains_to_all(self):
        dice = random.Random(62)
        for puzzle, k, rounds in ROUNDS:
            parts = tuple(dice.choice(sorted(rounds)) for _ in range(5)) if rounds else ()
            chain = joined_chains(puzzle, k, parts)
            self.assertEqual(chain, oracle_game.joined([chain_for(puzzle, k, part) for part in parts]))
            self.assertIsNone(oracle.judge_chain(puzzle, k, chain))
            told = [step[0] for step in chain]
            self.assertEqual(len(told), len(set(told)))
            self.assertLessEqual(set(parts), set(told))
            for part in parts:
                end = told.index(part) + 1
                self.assertEqual({step[0] for step in needed_steps(chain[:end])}, {step[0] for step in chain_for(puzzle, k, part)})

    def test_hint(self):
        self.assertIsNone(hint(made.TRIO, 1))
        self.assertIsNone(hint((((),), ()), 1))
        self.assertIsNone(hint(made.FREE, 3))
        struck, chain = hint(made.TRIO, 2)
        self.assertEqual(len(struck), 6)
        # () is a no-good, too, but it need not be told.
        self.assertNotIn((), [step[0] for step in chain])
        self.assertEqual(hint(made.EMPTY, 1)[0], ((0, 1), (0, 2), (2, 3)))

    def test_hint_as_told(self):
        for puzzle, k, rounds in ROUNDS:
            struck = struck_by(puzzle, k)
            if not struck:
                self.assertIsNone(hint(puzzle, k))
            else:
                self.assertEqual(hint(puzzle, k), (struck, joined_chains(puzzle, k, tuple((pair,) for pair in struck))))

    def test_first_reason(self):
        self.assertEqual(first_reason(ROW, (), 1), (1, 1, (0, 2)))
        self.assertEqual(first_reason(ROW, ((0, 2), (1, 0), (1, 2)), 3), (1, 1, (2, 0)))
        self.assertEqual(first_reason(ROW, ((0, 2), (1, 0), (1, 2), (2, 0)), 1), (1, 2, (0, 1)))
        self.assertIsNone(first_reason(ROW, struck_by(ROW, 1), 3))
        self.assertIsNone(first_reason(made.TRIO, (), 1))
        self.assertEqual(first_reason(made.TRIO, (), 3), (2, 2, (0, 1)))
        self.assertEqual(first_reason(made.TRIO, ((0, 1), (0, 2), (5, 5)), 2), (2, 2, (1, 1)))
        self.assertIsNone(first_reason((((),), ()), (), 3))

    def test_first_reason_takes_the_least_strength_ahead_of_the_least_round(self):
        # What strength 1 strikes in round 2 goes ahead of what strength 2 strikes in round 1.
        puzzle = (((0, 1, 2),) * 2 + ((5, 6),), (("below", 0, 1), ("below", 1, 0)))
        told = first_reason(puzzle, tuple(pair for pair in struck_by(puzzle, 1) if pair != (2, 5)), 2)
        self.assertEqual(told[0], 1)
        self.assertGreater(told[1], 1)

    def test_first_reason_as_the_oracle_tells(self):
        dice = random.Random(63)
        for puzzle in SMALL:
            for most in (1, 2, 3):
                known = made.picked(dice, struck_by(puzzle, most))
                self.assertEqual(first_reason(puzzle, known, most), oracle_game.next_reason(puzzle, known, most))
                self.assertEqual(first_reason(puzzle, (), most), oracle_game.next_reason(puzzle, (), most))


class StrengthPaperTest(unittest.TestCase):
    def test_each_form(self):
        self.assertEqual(paper_of(made.FREE), ("several", (1, 2), (2, 1)))
        self.assertEqual(paper_of(made.TRIO), ("clash", 2, chain_for(made.TRIO, 2, ()), greatest_book(made.TRIO, 1)))
        self.assertEqual(paper_of(made.EMPTY), ("clash", 1, (((), ("cell", 1), ()),), ()))
        self.assertEqual(paper_of((((9,),), ())), ("solved", 1, (9,), (), (), None))
        pairs = tuple((pair,) for pair in struck_by(ROW, 1))
        self.assertEqual(paper_of(ROW), ("solved", 1, (0, 1, 2), joined_chains(ROW, 1, pairs), (), None))
        pairs = tuple((pair,) for pair in struck_by(PAIRED, 2))
        self.assertEqual(paper_of(PAIRED), (
            "solved", 2, (0, 2, 1), joined_chains(PAIRED, 2, pairs), greatest_book(PAIRED, 1), (0, 1)))

    def test_the_left_pair_is_in_the_book(self):
        paper = paper_of(BEHIND)
        self.assertEqual((paper[:3], paper[5]), (("solved", 2, (6, 0, 2, 1)), (1, 1)))
        self.assertEqual(paper[4], greatest_book(BEHIND, 1))
        self.assertIsNone(judge_strength(BEHIND, paper))
        self.assertEqual(judge_strength(BEHIND, paper[:5] + ((0, 5),)), ("book", ("missing",)))

    def test_a_clash_of_strength_1_has_no_book(self):
        paper = paper_of(ROUND)
        self.assertEqual(paper, ("clash", 1, chain_for(ROUND, 1, ()), ()))
        self.assertGreater(len(paper[2]), 1)

    def test_all_papers_are_let(self):
        words = {}
        for puzzle in SMALL + [FOUR]:
            paper = paper_of(puzzle)
            found = oracle.answers(puzzle)
            self.assertIsNone(judge_strength(puzzle, paper))
            self.assertIsNone(oracle_game.judge_strength(puzzle, paper))
            self.assertEqual(paper[0], ("clash", "solved", "several")[min(len(found), 2)])
            words[paper[0], paper[1] == 1] = True
            if paper[0] == "several":
                self.assertEqual(paper[1:], found[:2])
            if paper[0] == "clash":
                self.assertEqual(paper[1], oracle_game.least_strength(puzzle, "clash"))
                self.assertEqual(paper[2], chain_for(puzzle, paper[1], ()))
                self.assertEqual(paper[3], greatest_book(puzzle, paper[1] - 1) if paper[1] > 1 else ())
            if paper[0] == "solved":
                self.assertEqual(paper[1:3], (oracle_game.least_strength(puzzle, "solved"), found[0]))
        self.assertLessEqual({("clash", True), ("clash", False), ("solved", True), ("solved", False)}, set(words))


class JudgeStrengthTest(unittest.TestCase):
    def assert_fault(self, puzzle, value, fault):
        self.assertEqual(oracle_game.judge_strength(puzzle, value), fault, value)
        self.assertEqual(judge_strength(puzzle, value), fault, value)

    def test_other_papers_are_let(self):
        # A longer chain, that does not end with (), at a strength at which a book of the one below is there.
        chain = joined_chains(made.TRIO, 2, ((), ((2, 2),), ((0, 1), (1, 1))))
        more = chain + ((((1, 1), (2, 1)), ("rule", 1), ()),) + chain
        self.assert_fault(made.TRIO, ("clash", 2, more, greatest_book(made.TRIO, 1)), None)
        self.assert_fault(made.FREE, ("several", (2, 1), (1, 2)), None)
        # A lesser book, with what has to be in it.
        two = (((1, 2, 3),) * 3 + ((7, 8),), made.TRIO[1] + (("table", (0, 1), ((1, 2), (2, 1))), ("table", (0, 2), ((1, 2), (2, 1)))))
        paper = strength_paper(two)
        self.assertEqual(paper[:2], ("clash", 2))
        lesser = tuple(part for part in paper[3] if (3, 8) not in part)
        self.assertLess(len(lesser), len(paper[3]))
        self.assert_fault(two, paper[:3] + (lesser,), None)
        # Another left value than the least one.
        word, k, answer, chain, book, left = paper_of(PAIRED)
        others = [pair for pair in oracle_game.pairs(PAIRED) if (pair,) in book and pair[1] != answer[pair[0]]]
        self.assertGreater(len(others), 1)
        for other in others:
            self.assert_fault(PAIRED, (word, k, answer, chain, book, other), None)

    def test_a_greater_strength_has_no_book(self):
        paper = paper_of(made.TRIO)
        self.assert_fault(made.TRIO, ("clash", 3, paper[2], ()), ("book", ("missing",)))
        self.assert_fault(made.TRIO, ("clash", 3, paper[2], paper[3]), ("book", ("question", (), ("rule", 0))))
        self.assert_fault(made.TRIO, ("clash", 4, paper[2], ()), ("book", ("missing",)))
        self.assertEqual(judge_strength(made.TRIO, ("clash", made.BIG, paper[2], ())), ("book", ("missing",)))

    def test_form(self):
        paper, told = paper_of(made.TRIO), paper_of(ROW)
        for value in (None, True, 0, "clash", [], {}, (), ("clash",), ("solved",), ("several",), (None,), ("open",), ["clash", 2, (), ()],
                      ("Clash",) + paper[1:], (("clash",),) + paper[1:], ([],) + paper[1:], list(paper), paper[:3], paper + ((),),
                      ("clash", 0) + paper[2:], ("clash", -1) + paper[2:], ("clash", True) + paper[2:], ("clash", False) + paper[2:],
                      ("clash", None) + paper[2:], ("clash", "2") + paper[2:], ("clash", 1) + paper[2:], ("clash", 1, paper[2], None),
                      ("clash", 1, paper[2], []), ("clash", 1, paper[2], ((),)), ("solved", 2), ("several", (1, 2)), ("several", 1, 2, 3)):
            self.assert_fault(made.TRIO, value, ("form",))
        for value in (("solved", True) + told[2:], ("solved", 0) + told[2:], told[:4] + (((),), None), told[:4] + ((), (0, 1)),
                      told[:4] + ((), ()), told[:4] + ([], None), told[:4] + ((), False), told[:5], told + (None,)):
            self.assert_fault(ROW, value, ("form",))

    def test_answer(self):
        told = paper_of(ROW)
        for values in ((0, 1, 1), (0, 1), [0, 1, 2], None, (False, True, 2), (0, True, 2), (0, 1, 2, 0), {}, 0):
            self.assert_fault(ROW, told[:2] + (values,) + told[3:], ("answer",))
            self.assert_fault(ROW, told[:2] + (values, None) + told[4:], ("answer",))
            self.assert_fault(ROW, ("several", (0, 1, 2), values), ("answer",))
            self.assert_fault(ROW, ("several", values, (0, 1, 2)), ("answer",))
        self.assert_fault(ROW, ("several", (0, 1, 2), (0, 1, 2)), ("answer",))
        self.assert_fault(made.FREE, ("several", (1, 2), (1, 2)), ("answer",))
        self.assert_fault(made.FREE, ("several", (1, 2), (True, 2)), ("answer",))

    def test_left(self):
        word, k, answer, chain, book, left = paper_of(PAIRED)
        for bad in (None, (0, 0), (0, 9), (3, 1), (-1, 1), (0,), (0, 1, 2), [0, 1], (False, 1), (0, True), ((0, 1),), "", {}, ()):
            self.assert_fault(PAIRED, (word, k, answer, chain, book, bad), ("form",))
            # This fault goes ahead of those of the chain, and behind those of the answer.
            self.assert_fault(PAIRED, (word, k, answer, None, None, bad), ("form",))
            self.assert_fault(PAIRED, (word, k, (1, 2, 2), None, None, bad), ("answer",))
        self.assert_fault(PAIRED, (word, 1, (1, 2, 2), chain, book, left), ("form",))

    def test_chain_and_reach(self):
        word, k, chain, book = paper_of(made.TRIO)
        self.assert_fault(made.TRIO, (word, k, None, book), ("chain", ("form",)))
        self.assert_fault(made.TRIO, (word, k, chain[1:], None), ("chain", oracle.judge_chain(made.TRIO, 2, chain[1:])))
        self.assert_fault(made.TRIO, (word, k, chain[:-1], None), ("reach", ()))
        self.assert_fault(made.TRIO, (word, k, (), book), ("reach", ()))
        word, k, answer, chain, book, left = paper_of(PAIRED)
        wanted = [((c, v),) for c, v in oracle_game.pairs(PAIRED) if v != answer[c]]
        self.assert_fault(PAIRED, (word, k, answer, (), book, left), ("reach", wanted[0]))
        for part in wanted:
            others = joined_chains(PAIRED, k, tuple(other for other in wanted if other != part))
            told = [step[0] for step in others]
            fault = ("reach", part) if part not in told else None
            self.assert_fault(PAIRED, (word, k, answer, others, book, left), fault)
        others = joined_chains(PAIRED, k, tuple(wanted[-2:]))
        self.assert_fault(PAIRED, (word, k, answer, others, None, left), ("reach", wanted[0]))
        # What is not in the domain, or is the answer's, is not wanted.
        self.assert_fault((((9,),), ()), ("solved", 1, (9,), (), (), None), None)

    def test_book(self):
        word, k, chain, book = paper_of(made.TRIO)
        for bad in (None, [], list(book), ((), ((0, 1), (1, 1))), True):
            self.assert_fault(made.TRIO, (word, k, chain, bad), ("book", ("form",)))
        self.assert_fault(made.TRIO, (word, k, chain, ()), ("book", ("missing",)))
        self.assert_fault(made.TRIO, (word, k, chain, book[1:]), ("book", ("within", book[1], ())))
        self.assert_fault(made.TRIO, (word, k, chain, book[:2]), ("book", ("question", (), ("cell", 1))))
        word, k, answer, chain, book, left = paper_of(PAIRED)
        self.assert_fault(PAIRED, (word, k, answer, chain, (), left), ("book", ("missing",)))
        self.assert_fault(PAIRED, (word, k, answer, chain, None, left), ("book", ("form",)))
        gone = [pair for pair in oracle_game.pairs(PAIRED) if (pair,) not in book and pair[1] != answer[pair[0]]]
        for pair in gone:
            self.assert_fault(PAIRED, (word, k, answer, chain, book, pair), ("book", ("missing",)))
        self.assertTrue(gone)
        least = tuple(part for part in ((),) + tuple((pair,) for pair in enumerate(answer)))
        self.assert_fault(PAIRED, (word, k, answer, chain, least, left), ("book", ("missing",)))
        self.assert_fault(PAIRED, (word, k, answer, chain, both_books(least, book), left), None)

    def test_any_value(self):
        for puzzle in (made.PAIR, made.TRIO, made.EMPTY, ROW):
            for value in made.STRANGE + made.DEEP:
                for shown in (value, (value,), ("clash", value, (), ()), ("clash", 2, value, value), ("several", value, value),
                              ("solved", 2, value, (), (), None), ("solved", 2, (0, 1, 2), value, value, (0, 1)),
                              ("solved", 2, (0, 1, 2), (), (), value), ("solved", 1, (0, 1, 2), (), value, value)):
                    if isinstance(shown, tuple) and len(shown) > 1 and shown[1] == made.BIG:
                        continue
                    self.assert_fault(puzzle, shown, oracle_game.judge_strength(puzzle, shown))

    def test_small_changes(self):
        dice = random.Random(64)
        for puzzle in SMALL:
            for value in made.some(made.changed(paper_of(puzzle)), 40, dice):
                if isinstance(value, tuple) and len(value) > 1 and isinstance(value[1], int) and value[1] > 5:
                    continue
                self.assert_fault(puzzle, value, oracle_game.judge_strength(puzzle, value))

    def test_papers_of_others(self):
        for puzzle in SMALL[:20]:
            for other in SMALL[:20]:
                value = paper_of(other)
                self.assert_fault(puzzle, value, oracle_game.judge_strength(puzzle, value))
                if judge_strength(puzzle, value) is None:
                    self.assertEqual(value[0], paper_of(puzzle)[0])
                    self.assertTrue(value[0] == "several" or value[1] == paper_of(puzzle)[1])


if __name__ == "__main__":
    unittest.main()
