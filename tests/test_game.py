"""The game with stones ([5.3] to [5.6])."""

import random
import unittest

import made
import oracle
import oracle_game
from cases import FOUR, ROUNDS, ROW
from toldreasons.errors import IsLost, NoReason
from toldreasons.game import (
    answered_out, answerer_move, asked_out, asker_move, judge_game, longest_stand, winner,
)

LOST = ((("rule", 0), None, None),)
GAME = ((("rule", 0), ((0, 0), (1, 1)), ((0, 0),)), (("cell", 1), ((1, 1),), ()))


def some_positions(puzzle, k, rounds, dice, many):
    """Some no-goods, and some parts that are none."""
    parts = oracle.parts(puzzle, k)
    struck = made.some([part for part in parts if part in rounds], many, dice)
    return struck, made.some([part for part in parts if part not in rounds], many, dice)


class JudgeGameTest(unittest.TestCase):
    def test_no_moves(self):
        for start in ((), ((0, 1),), ((1, 0),)):
            self.assertIsNone(judge_game(made.PAIR, 1, start, ()))

    def test_no_tuple(self):
        for value in (None, True, [], list(GAME), {}, "", 0, {0: GAME[0]}):
            self.assertEqual(judge_game(made.PAIR, 1, (), value), ("form",), value)

    def test_right_ones(self):
        self.assertIsNone(judge_game(made.PAIR, 1, (), GAME))
        self.assertIsNone(judge_game(made.PAIR, 1, ((0, 1),), LOST))
        self.assertIsNone(judge_game(made.PAIR, 1, ((1, 0),), LOST))
        self.assertIsNone(judge_game(made.PAIR, 2, (), ((("rule", 0), ((0, 0), (1, 1)), ((0, 0), (1, 1))),)))
        self.assertIsNone(judge_game(made.EMPTY, 1, (), ((("cell", 1), None, None),)))
        self.assertIsNone(judge_game(made.PAIR, 1, (), ((("cell", 0), ((0, 1),), ((0, 1),)),) + LOST))

    def test_form(self):
        t, kept = ((0, 0), (1, 1)), ((0, 0),)
        for move in (None, (), [], (("rule", 0), t), (("rule", 0), t, kept, ()), [("rule", 0), t, kept],
                     (("rule", 1), t, kept), (("rule", True), t, kept), (("rule", False), t, kept), (["rule", 0], t, kept),
                     (("cell", 2), t, kept), (("cell", -1), t, kept), (("row", 0), t, kept), (None, t, kept),
                     (("rule", 0), None, kept), (("rule", 0), t, None), (("rule", 0), None, ()), (("rule", 0), (), None),
                     (("rule", 0), list(t), kept), (("rule", 0), t, [(0, 0)]), (("rule", 0), t, ((0, 2),)),
                     (("rule", 0), t[::-1], kept), (("rule", 0), t, ((0, False),)), (("rule", 0), ((0, 0), (1, True)), kept),
                     (("rule", 0), t, ((0, 0), (0, 0))), (("rule", 0), t, (([0], 0),)), (("rule", 0), {}, {})):
            self.assertEqual(judge_game(made.PAIR, 1, (), (move,)), ("form", 0), move)
            self.assertEqual(judge_game(made.PAIR, 1, (), (GAME[0], move)), ("form", 1), move)

    def test_behind(self):
        start = ((0, 1),)
        self.assertEqual(judge_game(made.PAIR, 1, start, LOST + LOST), ("behind", 1))
        self.assertEqual(judge_game(made.PAIR, 1, start, LOST + GAME), ("behind", 1))
        self.assertEqual(judge_game(made.PAIR, 1, start, LOST + LOST + LOST), ("behind", 1))
        self.assertEqual(judge_game(made.PAIR, 1, start, LOST + (None,)), ("form", 1))
        self.assertEqual(judge_game(made.PAIR, 1, start, LOST + ((("rule", 0), ((0, 0),), ()),)), ("behind", 1))

    def test_filling(self):
        self.assertEqual(judge_game(made.PAIR, 1, (), ((("cell", 0), None, None),)), ("filling", 0))
        self.assertEqual(judge_game(made.PAIR, 1, (), LOST), ("filling", 0))
        self.assertEqual(judge_game(made.PAIR, 1, ((0, 1),), ((("rule", 0), ((0, 0), (1, 1)), ()),)), ("filling", 0))
        self.assertEqual(judge_game(made.PAIR, 1, (), ((("rule", 0), ((0, 0),), ()),)), ("filling", 0))
        self.assertEqual(judge_game(made.PAIR, 1, (), ((("rule", 0), ((0, 1), (1, 1)), ()),)), ("filling", 0))
        self.assertEqual(judge_game(made.PAIR, 1, (), ((("cell", 0), ((1, 1),), ()),)), ("filling", 0))
        self.assertEqual(judge_game(made.PAIR, 1, (), ((("cell", 0), (), ()),)), ("filling", 0))
        self.assertEqual(judge_game(made.PAIR, 1, ((0, 0),), ((("cell", 0), ((0, 1),), ()),)), ("filling", 0))
        self.assertEqual(judge_game(made.PAIR, 1, (), GAME + LOST), ("filling", 2))

    def test_filling_goes_ahead_of_kept(self):
        bad = (("cell", 0), ((0, 1),), ((0, 0), (1, 1)))
        self.assertEqual(judge_game(made.PAIR, 1, ((0, 0),), (bad,)), ("filling", 0))
        self.assertEqual(judge_game(made.PAIR, 1, (), (bad,)), ("kept", 0))

    def test_kept(self):
        whole = ((0, 0), (1, 1))
        self.assertEqual(judge_game(made.PAIR, 1, (), ((("rule", 0), whole, whole),)), ("kept", 0))
        self.assertEqual(judge_game(made.PAIR, 1, (), ((("rule", 0), whole, ((1, 0),)),)), ("kept", 0))
        self.assertEqual(judge_game(made.PAIR, 1, (), ((("cell", 0), ((0, 0),), ((1, 1),)),)), ("kept", 0))
        self.assertEqual(judge_game(made.PAIR, 1, ((1, 1),), ((("cell", 0), ((0, 0),), ((0, 0), (1, 1))),)), ("kept", 0))
        self.assertIsNone(judge_game(made.PAIR, 1, ((1, 1),), ((("cell", 0), ((0, 0),), ((1, 1),)),)))
        self.assertIsNone(judge_game(made.PAIR, 2, ((1, 1),), ((("cell", 0), ((0, 0),), ((0, 0), (1, 1))),)))

    def test_what_is_not_kept_is_gone(self):
        self.assertIsNone(judge_game(made.PAIR, 1, ((0, 0),), ((("cell", 1), ((1, 1),), ()), (("cell", 0), ((0, 1),), ()))))
        self.assertEqual(judge_game(made.PAIR, 1, ((0, 0),), (
            (("cell", 1), ((1, 1),), ((0, 0),)), (("cell", 0), ((0, 1),), ()))), ("filling", 1))

    def test_the_least_move_goes_ahead(self):
        self.assertEqual(judge_game(made.PAIR, 1, (), (LOST[0], None)), ("filling", 0))
        self.assertEqual(judge_game(made.PAIR, 1, (), (GAME[0], LOST[0], None)), ("filling", 1))

    def test_any_value(self):
        for puzzle in made.PUZZLES:
            for value in made.STRANGE + made.DEEP:
                for shown in (value, (value,), ((("cell", 0), value, ()),), ((("cell", 0), value, value),), ((value, None, None),)):
                    expected = oracle_game.judge_game(puzzle, 2, (), shown)
                    self.assertEqual(judge_game(puzzle, 2, (), shown), expected, shown)

    def test_small_changes(self):
        dice = random.Random(51)
        for puzzle, k, rounds in ROUNDS:
            struck, held = some_positions(puzzle, k, rounds, dice, 2)
            games = [(part, asked_out(puzzle, k, part, [1, 2])) for part in struck]
            games += [(part, answered_out(puzzle, k, part, [(1, 2), (3, 1), (0, 4)])) for part in held]
            for start, game in games:
                self.assertIsNone(judge_game(puzzle, k, start, game))
                for value in made.some(made.changed(game), 30, dice):
                    expected = oracle_game.judge_game(puzzle, k, start, value)
                    self.assertEqual(judge_game(puzzle, k, start, value), expected, (puzzle, k, start, value))


class WaysTest(unittest.TestCase):
    def test_asker_move(self):
        self.assertEqual(asker_move(made.PAIR, 1, ((0, 1),)), (("rule", 0), ()))
        self.assertEqual(asker_move(ROW, 1, ((0, 1),)), (("rule", 0), (((1, 2),),)))
        self.assertEqual(asker_move(made.EMPTY, 2, ((0, 1),)), (("cell", 1), ()))
        self.assertEqual(asker_move(made.TRIO, 2, ((0, 1),)), (("rule", 1), (((0, 1), (1, 1)), ((0, 1), (2, 1)))))

    def test_asker_move_as_the_oracle_tells(self):
        dice = random.Random(52)
        for puzzle, k, rounds in ROUNDS:
            struck, held = some_positions(puzzle, k, rounds, dice, 6)
            for part in struck:
                self.assertEqual(asker_move(puzzle, k, part), oracle_game.asker_move(puzzle, k, rounds, part))
            for part in held:
                with self.assertRaises(NoReason):
                    asker_move(puzzle, k, part)

    def test_answerer_move(self):
        self.assertEqual(answerer_move(made.PAIR, 1, (), ("rule", 0)), ((0, 0), (1, 1)))
        self.assertEqual(answerer_move(ROW, 1, (), ("cell", 1)), ((1, 1),))
        self.assertEqual(answerer_move(ROW, 1, ((1, 1),), ("cell", 2)), ((2, 2),))
        self.assertEqual(answerer_move(made.FREE, 2, ((1, 1),), ("cell", 0)), ((0, 2),))
        self.assertEqual(answerer_move(made.FREE, 1, ((1, 1),), ("cell", 0)), ((0, 1),))

    def test_answerer_move_as_the_oracle_tells(self):
        dice = random.Random(53)
        for puzzle, k, rounds in ROUNDS:
            struck, held = some_positions(puzzle, k, rounds, dice, 4)
            for question in made.some(oracle.questions(puzzle), 3, dice):
                for part in held:
                    expected = oracle_game.answerer_move(puzzle, k, rounds, part, question)
                    self.assertIsNotNone(expected)
                    self.assertEqual(answerer_move(puzzle, k, part, question), expected)
                for part in struck:
                    with self.assertRaises(IsLost):
                        answerer_move(puzzle, k, part, question)

    def test_winner(self):
        self.assertEqual([winner(made.TRIO, k, ()) for k in (1, 2, 3)], [("answerer",), ("asker", 3), ("asker", 3)])
        self.assertEqual(winner(made.EMPTY, 1, ()), ("asker", 1))
        for puzzle, k, rounds in ROUNDS[:60]:
            for part in oracle.parts(puzzle, k)[:8]:
                expected = ("asker", rounds[part]) if part in rounds else ("answerer",)
                self.assertEqual(winner(puzzle, k, part), expected)

    def test_the_asker_wins_in_its_round_and_no_earlier(self):
        dice = random.Random(54)
        for puzzle, k, rounds in ROUNDS:
            if len(oracle.parts(puzzle, k)) > 40:
                continue
            within = oracle_game.can_be_lost(puzzle, k)
            struck, held = some_positions(puzzle, k, rounds, dice, 3)
            for part in struck:
                self.assertTrue(within(part, winner(puzzle, k, part)[1]))
                self.assertFalse(within(part, winner(puzzle, k, part)[1] - 1))
            for part in held:
                self.assertFalse(within(part, max(rounds.values(), default=0) + 1))


class AskedOutTest(unittest.TestCase):
    def test_by_hand(self):
        self.assertEqual(asked_out(made.PAIR, 1, ((0, 1),), [3]), LOST)
        self.assertEqual(asked_out(made.PAIR, 1, ((0, 1),), []), LOST)
        self.assertEqual(asked_out(made.EMPTY, 1, (), []), ((("cell", 1), None, None),))
        self.assertEqual(asked_out(ROW, 1, ((0, 1),), [5]), (
            (("rule", 0), ((0, 1), (1, 2)), ((1, 2),)), (("rule", 1), None, None)))

    def test_picks(self):
        first = (("cell", 0), ((0, 1),), ((0, 1),))
        other = (("cell", 0), ((0, 2),), ((0, 2),))
        games = {picks: asked_out(made.TRIO, 2, (), list(picks)) for picks in ((), (0,), (1,), (0, 1), (1, 0), (2,), (3,), (2, 3))}
        self.assertEqual([games[picks][0] for picks in ((), (0,), (0, 1), (2,), (2, 3))], [first] * 5)
        self.assertEqual([games[picks][0] for picks in ((1,), (1, 0), (3,))], [other] * 3)
        self.assertEqual(games[()], games[(0,)])
        self.assertEqual(games[(2,)], games[(0,)])
        self.assertEqual(games[(3,)], games[(1,)])
        self.assertEqual(asked_out(made.TRIO, 2, (), (1, 0)), games[(1, 0)])
        # Behind the last pick that one goes on.
        self.assertEqual(asked_out(FOUR, 2, (), [10 ** 6]), asked_out(FOUR, 2, (), [10 ** 6] * 40))
        steps = ((tuple(range(8)),) * 7, tuple(("below", c, c + 1) for c in range(6)))
        values = {}
        for picks in ((0, 1), (0, 1, 1, 1), (0, 1, 0), (0,), (5, 5)):
            game = asked_out(steps, 1, ((0, 2),), picks)
            values[picks] = [kept[0][1] for _, t, kept in game[:-1]]
        self.assertEqual(values, {(0, 1): [3, 5, 7], (0, 1, 1, 1): [3, 5, 7], (0, 1, 0): [3, 5, 6, 7],
                                  (0,): [3, 4, 5, 6, 7], (5, 5): [3, 5, 7]})

    def test_as_the_oracle_tells(self):
        dice = random.Random(55)
        for puzzle, k, rounds in ROUNDS:
            for part in some_positions(puzzle, k, rounds, dice, 3)[0]:
                picks = [dice.randint(0, 10 ** 6) for _ in range(dice.randint(0, 5))]
                game = asked_out(puzzle, k, part, picks)
                self.assertIsNone(oracle_game.judge_game(puzzle, k, part, game))
                self.assertIsNone(judge_game(puzzle, k, part, game))
                self.assertLessEqual(len(game), rounds[part])
                self.assertEqual([move[1] is None for move in game], [False] * (len(game) - 1) + [True])
                position = part
                for i, (question, t, kept) in enumerate(game):
                    asked, keeps = oracle_game.asker_move(puzzle, k, rounds, position)
                    self.assertEqual(question, asked)
                    if keeps:
                        pick = (picks + picks[-1:] * 40)[i] if picks else 0
                        at = pick % len(keeps)
                        self.assertEqual((t, kept), (oracle.agreeing(puzzle, position, asked)[at], keeps[at]))
                    position = kept


class AnsweredOutTest(unittest.TestCase):
    def test_by_hand(self):
        self.assertEqual(answered_out(made.PAIR, 1, (), [(2, 1), (1, 0)]), GAME)
        self.assertEqual(answered_out(made.PAIR, 1, (), [(5, 4), (4, 3)]), GAME)
        self.assertEqual(answered_out(made.PAIR, 1, ((0, 0),), ()), ())
        self.assertEqual(answered_out(made.PAIR, 1, (), ((2, 2),)), ((("rule", 0), ((0, 0), (1, 1)), ((1, 1),)),))

    def test_as_the_oracle_tells(self):
        dice = random.Random(56)
        for puzzle, k, rounds in ROUNDS:
            for part in some_positions(puzzle, k, rounds, dice, 3)[1]:
                asks = [(dice.randint(0, 10 ** 6), dice.randint(0, 10 ** 6)) for _ in range(dice.randint(0, 6))]
                game = answered_out(puzzle, k, part, asks)
                self.assertEqual(len(game), len(asks))
                self.assertIsNone(oracle_game.judge_game(puzzle, k, part, game))
                position = part
                for (a, b), (question, t, kept) in zip(asks, game):
                    names = oracle.questions(puzzle)
                    self.assertEqual(question, names[a % len(names)])
                    self.assertEqual(t, oracle_game.answerer_move(puzzle, k, rounds, position, question))
                    pieces = oracle.pieces(oracle.both(position, t), k)
                    self.assertEqual(kept, pieces[b % len(pieces)])
                    self.assertNotIn(kept, rounds)
                    position = kept

    def test_forty_asks(self):
        asks = [(i, 3 * i + 1) for i in range(40)]
        game = answered_out(made.FREE, 2, (), asks)
        self.assertEqual(len(game), 40)
        self.assertIsNone(judge_game(made.FREE, 2, (), game))


class LongestStandTest(unittest.TestCase):
    def test_by_hand(self):
        self.assertEqual(longest_stand(made.PAIR, 1, ((0, 1),)), LOST)
        self.assertEqual(len(longest_stand(made.TRIO, 2, ())), 3)
        self.assertEqual(longest_stand(made.TRIO, 2, ((0, 1),))[0][1], ((1, 1), (2, 2)))

    def test_just_as_many_moves_as_rounds(self):
        dice = random.Random(57)
        for puzzle, k, rounds in ROUNDS:
            for part in some_positions(puzzle, k, rounds, dice, 4)[0]:
                game = longest_stand(puzzle, k, part)
                self.assertEqual(len(game), rounds[part])
                self.assertIsNone(judge_game(puzzle, k, part, game))
                self.assertEqual(game[-1][1:], (None, None))
                position = part
                for question, t, kept in game[:-1]:
                    asked, keeps = oracle_game.asker_move(puzzle, k, rounds, position)
                    greatest = max(rounds[piece] for piece in keeps)
                    at = [rounds[piece] for piece in keeps].index(greatest)
                    expected = (asked, oracle.agreeing(puzzle, position, asked)[at], keeps[at])
                    self.assertEqual((question, t, kept), expected)
                    position = kept

    def test_of_many_rounds(self):
        ring = ((tuple(range(4)),) * 3, (("below", 0, 1), ("below", 1, 2), ("below", 2, 0)))
        for k in (1, 2, 3):
            self.assertEqual(len(longest_stand(ring, k, ())), winner(ring, k, ())[1])
        self.assertEqual(len(longest_stand(FOUR, 2, ())), winner(FOUR, 2, ())[1])


if __name__ == "__main__":
    unittest.main()
