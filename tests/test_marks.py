"""Boards, deeds, hints and tales: [13.1] to [13.6]."""

import copy
import random
import unittest

import made
from toldreasons.answers import answers
from toldreasons.errors import BadDeed, NothingDone, PuzzleError
from toldreasons.marks import (
    answers_left, cut_puzzle, done, easiest, hinted, is_deed, is_finished, is_right, led_by_hints, new_board, next_hint, progress,
    redone, stuck, tale, undone, why_struck, wrong_marks,
)
from toldreasons.puzzles import is_answer
from toldreasons.reasons import chain_for, chain_rounds, judge_chain, round_of
from toldreasons.strength import first_reason, struck_by, verdict

CHAINED = (((1, 2, 3), (1, 2, 3), (1, 2, 3)), (("unlike", (0, 1, 2)), ("below", 0, 1), ("below", 1, 2)))


def puzzles(seed, many, **bounds):
    return made.made_puzzles(seed, many, **{"most_cells": 4, "most_values": 3, "most_rules": 4, "empty": 0.04, **bounds})


def all_deeds(board):
    """All deeds for a board, by the words of the document."""
    deeds = []
    for cell, domain in enumerate(board["puzzle"][0]):
        for value in domain:
            stands = value in board["marks"][cell]
            deeds.append(("strike" if stands else "raise", cell, value))
            if board["marks"][cell] != (value,):
                deeds.append(("set", cell, value))
    return deeds


def marks_behind(puzzle, log):
    """The marks behind the deeds of a log."""
    sets = [set(domain) for domain in puzzle[0]]
    for word, cell, value in log:
        if word == "set":
            sets[cell] = {value}
        elif word == "strike":
            sets[cell].remove(value)
        else:
            sets[cell].add(value)
    return tuple(tuple(sorted(values)) for values in sets)


def played(dice, puzzle, many, words=("strike", "raise", "set")):
    """A board behind so many deeds of the dice, or as many as there are."""
    board = new_board(puzzle)
    for _ in range(many):
        deeds = [deed for deed in all_deeds(board) if deed[0] in words]
        if deeds:
            board = done(board, dice.choice(deeds))
    return board


def boards(seed, many, **bounds):
    dice = random.Random(seed)
    for puzzle in puzzles(seed, many, **bounds) + list(made.PUZZLES):
        yield new_board(puzzle)
        yield played(dice, puzzle, dice.randint(1, 5))
        yield played(dice, puzzle, dice.randint(1, 3), ("strike",))


class BoardTest(unittest.TestCase):
    def test_new(self):
        for puzzle in made.PUZZLES:
            board = new_board(puzzle)
            self.assertEqual(board, {"puzzle": puzzle, "marks": puzzle[0], "log": (), "back": ()})
            self.assertEqual(cut_puzzle(board), puzzle)

    def test_cut(self):
        board = done(done(new_board(made.TOLD), ("strike", 2, 3)), ("set", 0, 2))
        self.assertEqual(cut_puzzle(board), (((2,), (1, 2), (1, 2)), made.TOLD[1]))
        self.assertEqual(board["puzzle"], made.TOLD)


class DeedsTest(unittest.TestCase):
    def test_is_deed(self):
        dice = random.Random(501)
        for board in boards(501, 25):
            right = all_deeds(board)
            for word in ("strike", "raise", "set", "stick", ""):
                for cell in range(-1, len(board["puzzle"][0]) + 1):
                    for value in (*range(-1, 7), 99, 100):
                        self.assertIs(is_deed(board, (word, cell, value)), (word, cell, value) in right)
            for deed in made.some(right, 2, dice):
                for value in made.changed(deed):
                    strict = isinstance(value, tuple) and not any(isinstance(member, bool) for member in value)
                    self.assertIs(is_deed(board, value), strict and value in right, value)

    def test_any_value(self):
        board = new_board((((0, 1), (0, 1)), ()))
        for value in made.STRANGE + made.DEEP + (
            ("strike", 0), ("strike", 0, 1, 1), ["strike", 0, 1], ("strike", True, 1), ("strike", 0, True), ("strike", False, 0), ("set", 0, False),
            ("strike", "0", 1), ("strike", 0, "1"), ("strike", (0,), 1), ("strike", [0], 1), ("strike", 0, [1]), ("strike", 0, {}), (["strike"], 0, 1),
            ("STRIKE", 0, 1), ("strike ", 0, 1), (None, 0, 1), (("strike",), 0, 1), ({}, 0, 1), "strike 0 1", ("strike", 0, made.BIG), ("set", made.BIG, 1),
        ):
            self.assertIs(is_deed(board, value), False, value)
            with self.assertRaises(BadDeed) as caught:
                done(board, value)
            self.assertEqual(vars(caught.exception), {})
            self.assertIsInstance(caught.exception, PuzzleError)
        self.assertEqual(board, new_board((((0, 1), (0, 1)), ())))

    def test_each_word(self):
        board = new_board((((1, 2, 3), (7,), ()), ()))
        self.assertEqual(done(board, ("strike", 0, 2))["marks"], ((1, 3), (7,), ()))
        self.assertEqual(done(board, ("set", 0, 2))["marks"], ((2,), (7,), ()))
        self.assertFalse(is_deed(board, ("raise", 0, 2)))
        self.assertFalse(is_deed(board, ("set", 1, 7)))
        self.assertFalse(is_deed(board, ("set", 2, 7)))
        struck = done(board, ("strike", 1, 7))
        self.assertEqual(struck["marks"], ((1, 2, 3), (), ()))
        for word in ("raise", "set"):
            self.assertEqual(done(struck, (word, 1, 7))["marks"], board["marks"])
        fewer = done(done(board, ("strike", 0, 2)), ("strike", 0, 1))
        self.assertFalse(is_deed(fewer, ("set", 0, 3)))
        self.assertFalse(is_deed(fewer, ("strike", 0, 1)))
        self.assertEqual(done(fewer, ("raise", 0, 1))["marks"], ((1, 3), (7,), ()))
        self.assertEqual(done(fewer, ("set", 0, 2))["marks"], ((2,), (7,), ()))
        self.assertEqual(done(done(fewer, ("raise", 0, 2)), ("raise", 0, 1))["marks"], board["marks"])

    def test_plays(self):
        dice = random.Random(502)
        for puzzle in puzzles(502, 25) + list(made.PUZZLES):
            board, log, back = new_board(puzzle), [], []
            for _ in range(25):
                before = copy.deepcopy(board)
                choice = dice.random()
                if choice < 0.5 and all_deeds(board):
                    deed = dice.choice(all_deeds(board))
                    behind = done(board, deed)
                    log, back = log + [deed], []
                elif choice < 0.8:
                    if not log:
                        self.assertRaises(NothingDone, undone, board)
                        continue
                    behind = undone(board)
                    log, back = log[:-1], back + log[-1:]
                else:
                    if not back:
                        self.assertRaises(NothingDone, redone, board)
                        continue
                    behind = redone(board)
                    log, back = log + back[-1:], back[:-1]
                self.assertEqual(board, before)
                board = behind
                self.assertEqual(board, {"puzzle": puzzle, "marks": marks_behind(puzzle, log), "log": tuple(log), "back": tuple(back)})

    def test_back_again(self):
        first = new_board(made.TOLD)
        one = done(first, ("strike", 0, 2))
        two = done(one, ("set", 2, 1))
        self.assertEqual(two["log"], (("strike", 0, 2), ("set", 2, 1)))
        back = undone(undone(two))
        self.assertEqual(back, {**first, "back": (("set", 2, 1), ("strike", 0, 2))})
        self.assertEqual(redone(back), {**one, "back": (("set", 2, 1),)})
        self.assertEqual(redone(redone(back)), two)
        self.assertEqual(undone(two)["back"], (("set", 2, 1),))
        self.assertEqual(done(undone(two), ("strike", 1, 1))["back"], ())
        self.assertRaises(NothingDone, redone, done(back, ("strike", 1, 1)))
        self.assertRaises(NothingDone, redone, two)
        self.assertRaises(NothingDone, undone, back)
        self.assertRaises(NothingDone, undone, first)
        with self.assertRaises(NothingDone) as caught:
            redone(first)
        self.assertEqual(vars(caught.exception), {})

    def test_a_struck_value_set_and_taken_back(self):
        board = done(new_board(made.TOLD), ("strike", 2, 3))
        late = done(board, ("set", 2, 3))
        self.assertEqual((late["marks"][2], undone(late)["marks"][2], undone(undone(late))["marks"][2]), ((3,), (1, 2), (1, 2, 3)))
        self.assertEqual(redone(redone(undone(undone(late)))), late)


class WrongTest(unittest.TestCase):
    def test_by_the_answers(self):
        seen = set()
        for board in boards(503, 50):
            found = answers(board["puzzle"])
            wrong = sorted({pair for answer in found for pair in enumerate(answer) if pair[1] not in board["marks"][pair[0]]})
            self.assertEqual(wrong_marks(board), tuple(wrong))
            self.assertIs(is_right(board), wrong == [])
            left = [answer for answer in found if all(value in board["marks"][c] for c, value in enumerate(answer))]
            self.assertEqual(answers_left(board), left)
            self.assertIs(type(answers_left(board)), list)
            self.assertEqual(is_right(board), left == list(found))
            single = all(len(values) == 1 for values in board["marks"])
            finished = single and is_answer(board["puzzle"], tuple(values[0] for values in board["marks"]))
            self.assertIs(is_finished(board), finished)
            seen.add((is_right(board), finished, len(left) > 1))
        self.assertGreater(len(seen), 4)

    def test_without_answers(self):
        board = new_board(made.TRIO)
        for cell, value in ((0, 1), (1, 2), (2, 2)):
            board = done(board, ("set", cell, value))
            self.assertEqual((wrong_marks(board), is_right(board), answers_left(board), is_finished(board)), ((), True, [], False))
        self.assertEqual(board["marks"], ((1,), (2,), (2,)))
        self.assertEqual((is_right(new_board(made.EMPTY)), answers_left(new_board(made.EMPTY)), is_finished(new_board(made.EMPTY))), (True, [], False))

    def test_finished(self):
        board = new_board(made.FREE)
        for cell, value in enumerate((2, 1)):
            self.assertFalse(is_finished(board))
            board = done(board, ("set", cell, value))
        self.assertTrue(is_finished(board))
        self.assertEqual(wrong_marks(board), ((0, 1), (1, 2)))
        self.assertFalse(is_finished(done(board, ("set", 1, 2))))
        self.assertFalse(is_finished(done(board, ("strike", 1, 1))))
        self.assertTrue(is_finished(new_board((((4,),), ()))))


class HintsTest(unittest.TestCase):
    def test_next_hint_and_hinted(self):
        hints = 0
        for board in boards(504, 30):
            for most in (1, 2, 3):
                reason = first_reason(cut_puzzle(board), (), most)
                found = next_hint(board, most)
                before = copy.deepcopy(board)
                if reason is None:
                    self.assertIsNone(found)
                    self.assertEqual(hinted(board, most), board)
                else:
                    hints += 1
                    self.assertEqual(found[:3], reason)
                    k, rounds, pair = reason
                    self.assertIsNone(judge_chain(cut_puzzle(board), k, found[3]))
                    self.assertEqual(found[3], chain_for(cut_puzzle(board), k, (pair,)))
                    self.assertEqual((found[3][-1][0], chain_rounds(found[3]), len(found)), ((pair,), rounds, 4))
                    self.assertEqual(hinted(board, most), done(board, ("strike", *pair)))
                self.assertEqual(board, before)
                self.assertIs(stuck(board, most), found is None and not is_finished(board))
        self.assertGreater(hints, 100)

    def test_led_by_hints(self):
        seen = {}
        for board in boards(505, 30):
            for most in (1, 2, 3):
                ahead = board
                while next_hint(ahead, most) is not None:
                    ahead = hinted(ahead, most)
                led = led_by_hints(board, most)
                self.assertEqual(led, ahead)
                solved = verdict(cut_puzzle(board), most)
                self.assertIs(is_finished(led), solved[0] == "solved")
                if solved[0] == "solved":
                    self.assertEqual(led["marks"], tuple((value,) for value in solved[1]))
                if solved[0] == "clash":
                    self.assertEqual(led["marks"], ((),) * len(led["marks"]))
                self.assertEqual(is_right(led), is_right(board))
                self.assertEqual(answers_left(led), answers_left(board))
                self.assertEqual(led["log"][:len(board["log"])], board["log"])
                seen[solved[0], most] = True
        self.assertEqual(len(seen), 9)

    def test_where_the_cut_puzzle_clashes(self):
        board = done(new_board(made.FREE), ("set", 0, 1))
        board = done(board, ("set", 1, 1))
        self.assertEqual(next_hint(board, 1)[:3], (1, 1, (0, 1)))
        led = led_by_hints(board, 1)
        self.assertEqual((led["marks"], led["log"][2:]), (((), ()), (("strike", 0, 1), ("strike", 1, 1))))
        self.assertIsNone(next_hint(led, 3))
        self.assertTrue(stuck(led, 3))

    def test_no_hint(self):
        for most in (1, 2, 3):
            board = new_board(made.FREE)
            self.assertIsNone(next_hint(board, most))
            self.assertEqual((hinted(board, most), led_by_hints(board, most), stuck(board, most)), (board, board, True))
            self.assertFalse(stuck(new_board((((4,),), ())), most))
        self.assertIsNone(next_hint(new_board(made.TRIO), 1))
        self.assertEqual(next_hint(new_board(made.TRIO), 2)[0], 2)
        self.assertTrue(stuck(new_board(made.TRIO), 1))
        self.assertFalse(stuck(new_board(made.TRIO), 2))

    def test_the_answer_of_what_is_solved(self):
        for puzzle in puzzles(506, 60):
            for most in (1, 2, 3):
                if verdict(puzzle, most)[0] == "solved":
                    led = led_by_hints(new_board(puzzle), most)
                    self.assertTrue(is_finished(led))
                    self.assertEqual(tuple((value,) for value in answers(puzzle)[0]), led["marks"])
                    self.assertEqual(len(led["log"]), sum(len(domain) - 1 for domain in puzzle[0]))


class ReasonsTest(unittest.TestCase):
    def test_why_struck(self):
        found = {}
        for board in boards(507, 25):
            puzzle = board["puzzle"]
            for cell, domain in enumerate(puzzle[0]):
                for value in domain:
                    for most in (1, 2, 3):
                        struck = [k for k in range(1, most + 1) if round_of(puzzle, k, ((cell, value),)) is not None]
                        told = why_struck(board, cell, value, most)
                        if not struck:
                            self.assertIsNone(told)
                        else:
                            self.assertEqual(told, (struck[0], chain_for(puzzle, struck[0], ((cell, value),))))
                        found[told and told[0]] = True
        self.assertLessEqual({None, 1, 2}, set(found))

    def test_whatever_is_marked(self):
        board = new_board(made.FREE)
        self.assertIsNone(why_struck(done(board, ("set", 0, 1)), 1, 1, 3))
        self.assertIsNone(why_struck(done(board, ("set", 0, 1)), 0, 2, 3))
        told = why_struck(new_board(made.TOLD), 0, 2, 1)
        self.assertEqual(told, (1, ((((0, 2),), ("rule", 1), ()),)))
        self.assertEqual(why_struck(done(new_board(made.TOLD), ("strike", 0, 2)), 0, 2, 1), told)
        self.assertIsNone(why_struck(new_board(made.TRIO), 0, 1, 1))
        self.assertEqual(why_struck(new_board(made.TRIO), 0, 1, 2)[0], 2)


def told_by(puzzle, log):
    """The tale of a log, by the words of the document."""
    pairs = []
    for i, deed in enumerate(log):
        ahead, behind = marks_behind(puzzle, log[:i]), marks_behind(puzzle, log[:i + 1])
        stood = {(c, value) for c, values in enumerate(ahead) for value in values}
        stand = {(c, value) for c, values in enumerate(behind) for value in values}
        fit = [k for k in (1, 2) if stood - stand <= set(struck_by((ahead, puzzle[1]), k))]
        pairs.append((deed, fit[0] if fit and stood - stand and not stand - stood else 0))
    return pairs


class TaleTest(unittest.TestCase):
    def test_by_the_words(self):
        dice = random.Random(508)
        told = {}
        for puzzle in puzzles(508, 60) + [made.TRIO, made.TOLD, made.PAIR]:
            for words in (("strike",), ("strike", "set"), ("strike", "raise", "set")):
                board = played(dice, puzzle, 5, words)
                self.assertEqual(tale(board), told_by(puzzle, board["log"]))
                self.assertIs(type(tale(board)), list)
                for (word, _, _), k in tale(board):
                    told[word, k] = told.get((word, k), 0) + 1
        self.assertEqual(set(told), {("strike", 0), ("strike", 1), ("strike", 2), ("set", 0), ("set", 1), ("set", 2), ("raise", 0)})

    def test_each(self):
        self.assertEqual(tale(new_board(made.TOLD)), [])
        board = new_board(CHAINED)
        for deed in (("set", 0, 1), ("raise", 0, 2), ("strike", 0, 2), ("strike", 2, 3), ("set", 2, 3), ("set", 1, 2)):
            board = done(board, deed)
        self.assertEqual([k for _, k in tale(board)], [1, 0, 1, 0, 0, 1])
        self.assertEqual([deed for deed, _ in tale(board)], list(board["log"]))
        board = new_board(made.TRIO)
        for deed in (("strike", 0, 1), ("set", 1, 1), ("set", 2, 1)):
            board = done(board, deed)
        self.assertEqual([k for _, k in tale(board)], [2, 1, 1])

    def test_hints_are_told(self):
        for puzzle in puzzles(509, 30):
            led = led_by_hints(new_board(puzzle), 2)
            self.assertNotIn(0, [k for _, k in tale(led)])

    def test_deeds_taken_back_are_not_told(self):
        board = undone(done(new_board(made.TOLD), ("strike", 0, 2)))
        self.assertEqual(tale(board), [])
        self.assertEqual(tale(redone(board)), [(("strike", 0, 2), 1)])


class ProgressTest(unittest.TestCase):
    def test_by_the_marks(self):
        for board in boards(510, 40):
            sizes = [len(values) for values in board["marks"]]
            self.assertEqual(progress(board), (sum(sizes), sizes.count(1), sizes.count(0)))
            more = [size for size in sizes if size > 1]
            self.assertEqual(easiest(board), tuple(c for c, size in enumerate(sizes) if more and size == min(more)))

    def test_easiest(self):
        self.assertEqual(easiest(new_board((((1,), (1, 2, 3), (), (4, 5, 6)), ()))), (1, 3))
        self.assertEqual(easiest(new_board((((1,), (1, 2, 3), (), (4, 5)), ()))), (3,))
        self.assertEqual(easiest(new_board((((1,), ()), ()))), ())
        self.assertEqual(progress(new_board((((1,), (1, 2, 3), (), (4, 5)), ()))), (6, 1, 1))


if __name__ == "__main__":
    unittest.main()
