"""The names and arguments of the interface, and that no function changes or shares what it is passed ([0.2])."""

import copy
import importlib
import inspect
import unittest

import made
from toldreasons import (
    alike, answers, books, counting, deeds, desk, errors, game, grids, hardness, house, judging, kinds, leaving, live, maker, marks,
    puzzles, reasons, rules, strength, symmetry, texts, trees, widths,
)
from toldreasons.errors import PuzzleError

NAMES = {
    "rules": "cells_of(rule); fits(rule, values)",
    "puzzles": "judge_puzzle(value); is_puzzle(value); first_broken(puzzle, values); is_answer(puzzle, value);"
               " is_part(puzzle, value); do_agree(f, t); both_of(f, t); lies_in(f, t); pieces_of(f, k);"
               " value_at(f, cell); part_of(values, cells); questions(puzzle); asked_cells(puzzle, question);"
               " fillings(puzzle, question); agreeing(puzzle, f, question); cut_to(puzzle, f); narrowed(puzzle, kept);"
               " with_rules(puzzle, rules)",
    "texts": "rule_text(rule); read_rule(text); puzzle_text(puzzle); read_puzzle(text); grid_text(n, width, f);"
             " read_grid(text)",
    "answers": "answers(puzzle); answers_with(puzzle, part); answer_count(puzzle); first_answer(puzzle);"
               " settled(puzzle); judge_answer(puzzle, value); without_rule(puzzle, j); joint(one, other);"
               " beside(one, other); free_cells(puzzle, answer); answer_values(puzzle, c); common_part(puzzle);"
               " is_forced(puzzle, part)",
    "trees": "tree_of(puzzle); judge_tree(puzzle, value); told_answers(puzzle, tree); leaf_counts(tree);"
             " tree_depth(tree)",
    "reasons": "all_parts(puzzle, k); judge_chain(puzzle, k, value); does_clash(chain); part_rounds(puzzle, k);"
               " round_of(puzzle, k, part); chain_for(puzzle, k, part); chain_rounds(chain); needed_steps(chain);"
               " strength_in(chain); clashes(puzzle, k); clash_rounds(puzzle, k); read_off(puzzle, k, cell)",
    "books": "judge_book(puzzle, k, value); greatest_book(puzzle, k); book_of(puzzle, k, answers);"
             " both_books(one, other)",
    "game": "judge_game(puzzle, k, start, value); asker_move(puzzle, k, position);"
            " answerer_move(puzzle, k, position, question); winner(puzzle, k, position);"
            " asked_out(puzzle, k, position, picks); answered_out(puzzle, k, position, asks);"
            " longest_stand(puzzle, k, position)",
    "strength": "left_by(puzzle, k); struck_by(puzzle, k); verdict(puzzle, k); least_clash(puzzle);"
                " least_solving(puzzle); profile(puzzle, most); joined_chains(puzzle, k, parts); hint(puzzle, k);"
                " first_reason(puzzle, known, most); strength_paper(puzzle); judge_strength(puzzle, value)",
    "widths": "neighbours(puzzle); is_ties(value); taken_off(ties, cell, left); bags_of(ties, order);"
              " width_of(ties, order); bag_behind(ties, gone, cell); least_width(ties); lots_within(ties, w);"
              " judge_lots(ties, w, value); width_paper(ties); judge_width(ties, value); runaway(ties, w);"
              " judge_runaway(ties, w, value); along(puzzle, order, k)",
    "live": "live_plain(domains, rule); live_values(domains, rule); row_with(domains, rule, cell, value);"
            " live_paper(domains, rule, cell, value)",
    "judging": "judge_live(domains, rule, cell, value, paper)",
    "leaving": "live_domains(puzzle); dead_strikes(puzzle); judge_dead(puzzle, value)",
    "maker": "clues_of(answer); reaches(puzzle, clues, goal); least_clues(puzzle, answer, order, goal);"
             " judge_least(puzzle, answer, goal, value); needed_for(puzzle, clues, cell);"
             " difference_lots(puzzle, answer); fewest_clues(puzzle, answer, goal); sure_clues(puzzle, answer, goal);"
             " made_all(puzzle, answer, goal)",
    "hardness": "hardness(puzzle); harder(one, other); hardest_clues(puzzle, answer);"
                " made_puzzle(puzzle, order, goal)",
    "alike": "plain(puzzle); all_values(puzzle); led_part(leading, part); led_answer(leading, answer);"
             " led(puzzle, leading); led_after(leading, late); led_back(leading); standing(puzzle);"
             " find_leading(one, other); judge_leading(one, other, value)",
    "symmetry": "own_leadings(puzzle); cell_lots(puzzle); unlike_answers(puzzle); standing_pairs(puzzle);"
                " least_form(puzzle); least_leading(puzzle); turned_cells(w, h, turn); turned(puzzle, w, h, turn);"
                " own_turns(puzzle, w, h)",
    "kinds": "cell_at(grid, r, c); place_of(grid, cell); row_cells(grid, r); column_cells(grid, c);"
             " box_lots(grid, tall, wide); side_ties(grid); cells_about(grid, cell); squares(size); boxed(tall, wide);"
             " signed(size, pairs); summed(grid, most, lots); painted(grid, rows, columns); mined(grid, told);"
             " roaded(grid, rows, columns)",
    "grids": "run_lengths(values); painted_by(grid, values); roaded_by(grid, values); mined_by(grid, values);"
             " summed_by(lots, values); signed_by(size, values); shown(grid, values); read_shown(grid, text);"
             " lots_shown(grid, lots); read_lots(grid, text)",
    "counting": "cell_table(puzzle, c); rule_table(puzzle, j); put_together(one, other); summed_off(table, c);"
                " steps_of(puzzle, order); count_by(puzzle, order); widest_lot(puzzle, order); only_at(puzzle, c, values);"
                " answer_of_number(puzzle, order, number); number_of_answer(puzzle, order, values);"
                " shares_by(puzzle, order); sure_values(puzzle, order); is_one(puzzle, order);"
                " judge_steps(puzzle, order, value)",
    "marks": "new_board(puzzle); cut_puzzle(board); is_deed(board, value); done(board, deed); undone(board);"
             " redone(board); wrong_marks(board); is_right(board); answers_left(board); is_finished(board);"
             " next_hint(board, most); hinted(board, most); led_by_hints(board, most);"
             " why_struck(board, cell, value, most); tale(board); progress(board); stuck(board, most); easiest(board)",
    "deeds": "deed_text(deed); read_deed(text); log_text(deeds); read_log(text)",
}

CLASSES = {
    (house, "House"): "__init__(self, puzzle); board(self); do(self, deed); undo(self); redo(self); hint(self, most);"
                      " lead(self, most); deeds(self); twin(self); standing(self); set_part(self); wrong(self);"
                      " finished(self); left(self); progress(self); easiest(self); told(self);"
                      " reasons(self, cell, value, most)",
    (desk, "Desk"): "__init__(self, puzzle, width); house(self); say(self, line)",
}

P, PART, QUESTION = made.KINDS, ((0, 1), (2, 0)), ("rule", 2)
TREE = trees.tree_of(P)
CHAIN = reasons.chain_for(made.TRIO, 2, ())
BOOK = books.greatest_book(made.FREE, 2)
ODD = [[1, {"a": [2], (0, 1): ({},)}], ([3], {0: {1: []}}), True, None, "x"]

CALLS = [
    (rules.cells_of, P[1][0]), (rules.cells_of, P[1][4]), (rules.fits, P[1][6], (1, 0, 2, 1)),
    (puzzles.judge_puzzle, P), (puzzles.judge_puzzle, ODD), (puzzles.judge_puzzle, (((1,),), tuple(ODD))),
    (puzzles.is_puzzle, P), (puzzles.is_puzzle, ODD), (puzzles.first_broken, P, (0, 1, 2, 0)),
    (puzzles.is_answer, P, (0, 1, 2, 0)), (puzzles.is_answer, P, ODD), (puzzles.is_answer, P, tuple(ODD[:4])),
    (puzzles.is_part, P, PART), (puzzles.is_part, P, ODD), (puzzles.is_part, P, tuple(ODD)),
    (puzzles.do_agree, PART, ((0, 2),)), (puzzles.both_of, PART, ((1, 2),)), (puzzles.lies_in, PART, PART),
    (puzzles.pieces_of, PART, 2), (puzzles.value_at, PART, 2), (puzzles.part_of, (1, 2, 3), [2, 0]),
    (puzzles.questions, P), (puzzles.asked_cells, P, QUESTION), (puzzles.fillings, P, QUESTION),
    (puzzles.agreeing, P, PART, QUESTION), (puzzles.cut_to, P, PART), (puzzles.narrowed, P, ((1, 0),) * 4),
    (puzzles.with_rules, P, (("unlike", (0,)),)), (puzzles.with_rules, P, ()),
    (texts.puzzle_text, P), (texts.read_puzzle, texts.puzzle_text(P)), (texts.read_puzzle, ODD),
    (texts.rule_text, P[1][6]), (texts.read_rule, "below 0 1"), (texts.read_rule, ODD),
    (texts.grid_text, 4, 3, PART), (texts.read_grid, ". 3\n7"), (texts.read_grid, ODD),
    (answers.answers, P), (answers.answers_with, P, PART), (answers.answer_count, P), (answers.first_answer, P),
    (answers.settled, made.FREE), (answers.judge_answer, P, (1, 2, 3)), (answers.judge_answer, P, ODD),
    (answers.without_rule, P, 3), (answers.joint, P, P), (answers.beside, P, P), (answers.free_cells, made.FREE, (1, 2)),
    (answers.answer_values, made.FREE, 1), (answers.common_part, made.BARE), (answers.is_forced, made.BARE, ((0, 4),)),
    (trees.tree_of, P), (trees.judge_tree, P, TREE), (trees.judge_tree, P, ODD), (trees.judge_tree, P, ("cell", 0, tuple(ODD))),
    (trees.told_answers, P, TREE), (trees.leaf_counts, TREE), (trees.tree_depth, TREE),
    (reasons.all_parts, P, 2), (reasons.judge_chain, made.TRIO, 2, CHAIN), (reasons.judge_chain, P, 2, ODD),
    (reasons.judge_chain, P, 2, (((), ("cell", 0), ODD),)), (reasons.does_clash, CHAIN), (reasons.part_rounds, made.TRIO, 2),
    (reasons.round_of, made.TRIO, 2, ((0, 1),)), (reasons.chain_for, made.TRIO, 2, ((0, 1),)),
    (reasons.chain_for, made.FREE, 1, ()), (reasons.chain_rounds, CHAIN), (reasons.needed_steps, CHAIN),
    (reasons.strength_in, CHAIN), (reasons.clashes, made.TRIO, 2), (reasons.clash_rounds, made.TRIO, 2),
    (reasons.read_off, made.PAIR, 1, 0), (books.judge_book, made.FREE, 2, BOOK), (books.judge_book, made.FREE, 2, ODD),
    (books.judge_book, made.FREE, 2, (tuple(ODD),)), (books.greatest_book, made.FREE, 2),
    (books.book_of, made.FREE, 2, [(1, 2), (2, 1)]), (books.both_books, BOOK, ((),)),
]
RING = ((1, 3), (0, 2), (1, 3), (0, 2))
GAME = game.answered_out(made.PAIR, 1, (), [(2, 1), (1, 0)])
ONE, BY_ONE = ("one",), ("strength", 1)
SUM, RUNS = ("sum", (1, 0), 3, 9), ("runs", (2, 0), (1,))
CALLS += [
    (game.judge_game, made.PAIR, 1, (), GAME), (game.judge_game, made.PAIR, 1, (), ODD),
    (game.judge_game, made.PAIR, 1, (), ((("rule", 0), ODD, ODD),)), (game.asker_move, made.TRIO, 2, ()),
    (game.asker_move, made.FREE, 2, ()), (game.answerer_move, made.FREE, 2, (), ("rule", 0)),
    (game.answerer_move, made.TRIO, 2, (), ("rule", 0)), (game.winner, made.TRIO, 2, ()), (game.winner, made.FREE, 2, ()),
    (game.asked_out, made.TRIO, 2, (), [1, 3]), (game.asked_out, made.TRIO, 2, (), []),
    (game.answered_out, made.FREE, 2, (), [(3, 4), (10 ** 6, 1)]), (game.longest_stand, made.TRIO, 2, ()),
    (strength.left_by, P, 2), (strength.struck_by, made.PAIR, 1), (strength.verdict, made.TOLD, 1), (strength.verdict, made.TRIO, 2),
    (strength.least_clash, made.TRIO), (strength.least_solving, made.TOLD), (strength.profile, made.TRIO, 2),
    (strength.joined_chains, made.TRIO, 2, ((), ((0, 1),))), (strength.hint, made.PAIR, 1), (strength.hint, made.FREE, 1),
    (strength.first_reason, made.PAIR, ((0, 1),), 2), (strength.strength_paper, made.TRIO),
    (strength.strength_paper, made.TOLD), (strength.strength_paper, made.FREE),
    (strength.judge_strength, made.TRIO, strength.strength_paper(made.TRIO)), (strength.judge_strength, made.TRIO, ODD),
    (strength.judge_strength, made.TRIO, ("clash", 2, ODD, ODD)), (strength.judge_strength, made.TRIO, ("clash", 2, tuple(ODD), ())),
    (widths.neighbours, P), (widths.is_ties, RING), (widths.is_ties, ODD), (widths.is_ties, tuple(ODD)),
    (widths.taken_off, RING, 1, (0, 1, 2, 3)), (widths.bags_of, RING, (0, 2, 1, 3)), (widths.width_of, RING, (0, 2, 1, 3)),
    (widths.bag_behind, RING, (0, 1), 2), (widths.least_width, RING), (widths.lots_within, RING, 3),
    (widths.judge_lots, RING, 2, ((),)), (widths.judge_lots, RING, 2, tuple(ODD)), (widths.width_paper, RING),
    (widths.judge_width, RING, widths.width_paper(RING)), (widths.judge_width, RING, (2, ODD, tuple(ODD))),
    (widths.judge_width, RING, (2, (0, 1, 2, 3), tuple(ODD))), (widths.runaway, RING, 2),
    (widths.judge_runaway, RING, 2, widths.runaway(RING, 2)), (widths.judge_runaway, RING, 2, ((ODD, ODD),)),
    (widths.along, made.FREE, (1, 0), 2), (widths.along, made.TRIO, (0, 1, 2), 2),
    (live.live_plain, P[0], P[1][0]), (live.live_values, P[0], P[1][6]), (live.row_with, P[0], P[1][2], 1, 2),
    (live.row_with, P[0], P[1][4], 1, 0), (live.live_paper, P[0], P[1][4], 1, 0), (live.live_paper, P[0], SUM, 0, 0),
    (live.live_paper, P[0], RUNS, 0, 0), (live.live_paper, P[0], P[1][1], 0, 1),
    (judging.judge_live, P[0], SUM, 0, 0, live.live_paper(P[0], SUM, 0, 0)), (judging.judge_live, P[0], SUM, 0, 0, ODD),
    (judging.judge_live, P[0], SUM, 0, 0, ("dead", "sums", ODD)), (judging.judge_live, P[0], SUM, 0, 0, ("live", tuple(ODD))),
    (leaving.live_domains, P), (leaving.dead_strikes, P), (leaving.judge_dead, P, leaving.dead_strikes(P)),
    (leaving.judge_dead, P, tuple(ODD)), (leaving.judge_dead, P, ()),
    (maker.clues_of, (1, 2, 3)), (maker.reaches, made.FREE, ((0, 1),), ONE), (maker.reaches, made.FREE, ((0, 1),), BY_ONE),
    (maker.least_clues, made.FREE, (1, 2), (0, 1), BY_ONE), (maker.judge_least, made.FREE, (1, 2), ONE, ((0, 1),)),
    (maker.judge_least, made.FREE, (1, 2), ONE, tuple(ODD)), (maker.judge_least, made.FREE, (1, 2), ONE, ODD),
    (maker.needed_for, made.FREE, ((0, 1),), 0), (maker.difference_lots, made.FREE, (1, 2)),
    (maker.fewest_clues, made.FREE, (1, 2), ONE), (maker.sure_clues, made.FREE, (1, 2), ONE), (maker.made_all, made.FREE, (1, 2), ONE),
    (hardness.hardness, made.TOLD), (hardness.hardness, made.FREE), (hardness.harder, (1, 2), None), (hardness.harder, (1, 2), (1, 3)),
    (hardness.hardest_clues, made.FREE, (1, 2)), (hardness.made_puzzle, made.FREE, (0, 1), ONE),
    (hardness.made_puzzle, made.TRIO, (0, 1, 2), ONE),
]
ROUND = ((1, 2, 0), ((1, 5), (2, 0), (3, 7)))
CALLS += [
    (alike.plain, P), (alike.all_values, P), (alike.led_part, ROUND, ((0, 1), (2, 3))), (alike.led_answer, ROUND, (1, 2, 3)),
    (alike.led, made.TOLD, ROUND), (alike.led_after, ROUND, alike.led_back(ROUND)), (alike.led_back, ROUND),
    (alike.standing, made.TOLD), (alike.find_leading, made.TOLD, alike.led(made.TOLD, ROUND)),
    (alike.find_leading, made.TOLD, made.FREE), (alike.judge_leading, made.TOLD, made.FREE, alike.standing(made.TOLD)),
    (alike.judge_leading, made.TOLD, made.TOLD, ODD), (alike.judge_leading, made.TOLD, made.TOLD, (ODD, ODD)),
    (alike.judge_leading, made.TOLD, made.TOLD, ((0, 1, 2), tuple(ODD[:3]))),
    (symmetry.own_leadings, made.FREE), (symmetry.cell_lots, made.TOLD), (symmetry.unlike_answers, made.FREE),
    (symmetry.standing_pairs, made.FREE), (symmetry.least_form, made.TOLD), (symmetry.least_leading, made.TOLD),
    (symmetry.turned_cells, 3, 2, "left"), (symmetry.turned, made.FREE, 2, 1, "right"), (symmetry.own_turns, made.FREE, 2, 1),
    (kinds.cell_at, (2, 3), 1, 2), (kinds.place_of, (2, 3), 5), (kinds.row_cells, (2, 3), 1), (kinds.column_cells, (2, 3), 0),
    (kinds.box_lots, (2, 4), 2, 2), (kinds.side_ties, (2, 2)), (kinds.cells_about, (2, 3), 0), (kinds.squares, 3),
    (kinds.boxed, 2, 2), (kinds.signed, 2, ((0, 1),)), (kinds.summed, (1, 2), 3, (((0, 1), 4),)),
    (kinds.painted, (1, 2), ((1,),), ((1,), ())), (kinds.mined, (1, 2), ((0, 1),)), (kinds.roaded, (1, 2), (2,), (1, 1)),
    (grids.run_lengths, (1, 1, 0, 2)), (grids.painted_by, (2, 2), (1, 1, 0, 1)), (grids.roaded_by, (2, 2), (1, 1, 0, 1)),
    (grids.mined_by, (2, 2), (1, 1, 0, 1)), (grids.summed_by, ((0, 1), (2,)), (1, 2, 3)), (grids.signed_by, 2, (1, 2, 2, 1)),
    (grids.shown, (2, 2), (1, None, 12, 0)), (grids.read_shown, (2, 2), "1 .\n12 0"), (grids.read_shown, (2, 2), ODD),
    (grids.lots_shown, (2, 2), ((0, 3), (1,))), (grids.read_lots, (2, 2), "ab\n.a"), (grids.read_lots, (2, 2), ODD),
]
TABLE = counting.rule_table(made.TOLD, 0)
STEPS = counting.steps_of(made.TOLD, (0, 2, 1))
CALLS += [
    (counting.cell_table, P, 1), (counting.rule_table, P, 6), (counting.put_together, TABLE, counting.cell_table(made.TOLD, 2)),
    (counting.summed_off, TABLE, 1), (counting.steps_of, P, (3, 1, 0, 2)), (counting.count_by, P, (3, 1, 0, 2)),
    (counting.widest_lot, made.TOLD, (0, 2, 1)), (counting.only_at, P, 1, [2, 0, 2]), (counting.only_at, P, 1, (2, 0)),
    (counting.answer_of_number, made.FREE, (1, 0), 1), (counting.answer_of_number, made.FREE, (1, 0), 2),
    (counting.number_of_answer, made.FREE, (1, 0), (2, 1)), (counting.number_of_answer, made.FREE, (1, 0), (2, 1, 0)),
    (counting.shares_by, made.TOLD, (0, 2, 1)), (counting.sure_values, made.TOLD, (0, 2, 1)), (counting.is_one, made.TOLD, (0, 2, 1)),
    (counting.judge_steps, made.TOLD, (0, 2, 1), STEPS), (counting.judge_steps, made.TOLD, (0, 2, 1), ODD),
    (counting.judge_steps, made.TOLD, (0, 2, 1), (tuple(ODD[:3]),) * 3),
]
FIRST = marks.new_board(made.TOLD)
LATE = marks.done(marks.undone(marks.done(marks.done(FIRST, ("strike", 2, 3)), ("set", 0, 2))), ("strike", 0, 2))
BACK = marks.undone(LATE)
CALLS += [
    (marks.new_board, P), (marks.cut_puzzle, LATE), (marks.is_deed, LATE, ("raise", 0, 2)), (marks.is_deed, LATE, ODD),
    (marks.is_deed, LATE, tuple(ODD[:3])), (marks.done, LATE, ("set", 2, 3)), (marks.done, LATE, ODD), (marks.undone, LATE),
    (marks.undone, FIRST), (marks.redone, BACK), (marks.redone, LATE), (marks.wrong_marks, LATE), (marks.is_right, LATE),
    (marks.answers_left, FIRST), (marks.is_finished, LATE), (marks.next_hint, LATE, 2), (marks.hinted, LATE, 2),
    (marks.led_by_hints, FIRST, 2), (marks.why_struck, LATE, 1, 1, 2), (marks.why_struck, LATE, 0, 1, 2), (marks.tale, LATE),
    (marks.progress, LATE), (marks.stuck, LATE, 2), (marks.easiest, LATE),
    (deeds.deed_text, ("set", 5, 12)), (deeds.read_deed, "strike 0 2"), (deeds.read_deed, ODD), (deeds.log_text, LATE["log"]),
    (deeds.read_log, "set 1 1\nstrike 0 3"), (deeds.read_log, ODD),
]


BOOLEANS = ("fits", "clashes", "reaches", "harder", "stuck")


def told(call, given):
    """What a call returns, or the error that it raises with what is told of it."""
    try:
        return call(*given)
    except PuzzleError as error:
        return [error.__class__.__name__, vars(error)]


def is_plain(value):
    return all(is_plain(member) for member in value) if type(value) is tuple else type(value) in (int, str, bool, type(None))


def kind_of(call):
    """What a function is told to return: a board, a list, or else plain tuples and what they are made of."""
    if call.__name__ in ("new_board", "done", "undone", "redone", "hinted", "led_by_hints"):
        return dict
    return list if call.__name__ in ("answers_left", "tale") else None


class InterfaceTest(unittest.TestCase):
    def test_names_and_arguments(self):
        for name, listed in NAMES.items():
            module = importlib.import_module(f"toldreasons.{name}")
            for entry in listed.split("; "):
                function = getattr(module, entry.partition("(")[0])
                self.assertEqual(function.__module__, f"toldreasons.{name}")
                self.assertEqual(f"{function.__name__}{inspect.signature(function)}", entry)

    def test_classes(self):
        for (module, name), listed in CLASSES.items():
            kind = getattr(module, name)
            self.assertEqual(kind.__module__, module.__name__)
            for entry in listed.split("; "):
                method = vars(kind)[entry.partition("(")[0]]
                self.assertEqual(f"{method.__name__}{inspect.signature(method)}", entry)

    def test_errors(self):
        told_parts = {"BadText": ["place"], "BadPuzzle": ["word"], "BadPaper": ["word"]}
        for name in ("BadText", "BadPuzzle", "BadPaper", "NoAnswer", "TooMany", "BadDeed", "NoReason", "IsLost", "NothingDone"):
            error = getattr(errors, name)(*told_parts.get(name, []))
            self.assertEqual(type(error).__bases__, (PuzzleError,))
            self.assertEqual(vars(error), {part: part for part in told_parts.get(name, [])})

    def test_each_name_is_called_below(self):
        called = {call.__name__ for call, *given in CALLS}
        for listed in NAMES.values():
            self.assertLessEqual({entry.partition("(")[0] for entry in listed.split("; ")}, called)


class NothingIsChangedTest(unittest.TestCase):
    def test_arguments_stay_and_answers_are_equal(self):
        for call, *given in CALLS:
            before = copy.deepcopy(given)
            first = told(call, given)
            self.assertEqual(given, before, call)
            self.assertEqual(told(call, before), first, call)
            self.assertEqual(told(call, given), first, call)

    def test_what_is_returned_is_plain(self):
        for call, *given in CALLS:
            try:
                found = call(*given)
            except PuzzleError:
                continue
            if kind_of(call) is dict:
                self.assertEqual(list(found), ["puzzle", "marks", "log", "back"])
            if kind_of(call) is not None:
                self.assertIs(type(found), kind_of(call), call)
                found = tuple(found.values()) if isinstance(found, dict) else tuple(found)
            self.assertTrue(is_plain(found), (call, found))

    def test_is_and_does_return_true_or_false(self):
        for call, *given in CALLS:
            if call.__name__.startswith(("is_", "do_", "does_", "lies_")) or call.__name__ in BOOLEANS:
                self.assertIs(type(call(*given)), bool, call)

    def test_a_tuple_may_stand_for_a_list(self):
        self.assertEqual(books.book_of(made.FREE, 2, ((1, 2),)), books.book_of(made.FREE, 2, [(1, 2)]))
        self.assertEqual(game.asked_out(made.TRIO, 2, (), (1, 3)), game.asked_out(made.TRIO, 2, (), [1, 3]))
        self.assertEqual(counting.only_at(P, 1, (2, 0)), counting.only_at(P, 1, [2, 0]))
        asks = [(2, 1), (1, 0)]
        self.assertEqual(game.answered_out(made.PAIR, 1, (), tuple(asks)), game.answered_out(made.PAIR, 1, (), asks))

    def test_judges_tell_nothing_of_right_values(self):
        self.assertIsNone(puzzles.judge_puzzle(P))
        self.assertIsNone(trees.judge_tree(P, TREE))
        self.assertIsNone(reasons.judge_chain(made.TRIO, 2, CHAIN))
        self.assertIsNone(books.judge_book(made.FREE, 2, BOOK))
        self.assertIsNone(game.judge_game(made.PAIR, 1, (), GAME))
        self.assertIsNone(strength.judge_strength(made.TRIO, strength.strength_paper(made.TRIO)))
        self.assertIsNone(widths.judge_width(RING, widths.width_paper(RING)))
        self.assertIsNone(widths.judge_runaway(RING, 2, widths.runaway(RING, 2)))
        self.assertIsNone(leaving.judge_dead(P, leaving.dead_strikes(P)))
        self.assertIsNone(maker.judge_least(made.FREE, (1, 2), ONE, ((0, 1),)))
        self.assertIsNone(counting.judge_steps(made.TOLD, (0, 2, 1), STEPS))
        self.assertIsNone(alike.judge_leading(made.TOLD, alike.led(made.TOLD, ROUND), ROUND))


if __name__ == "__main__":
    unittest.main()
