"""The names and arguments of the interface, and that no function changes or shares what it is passed ([0.2])."""

import copy
import importlib
import inspect
import unittest

import made
from toldreasons import answers, books, puzzles, reasons, rules, texts, trees
from toldreasons.errors import PuzzleError

NAMES = {
    "rules": "cells_of(rule); fits(rule, values)",
    "puzzles": "judge_puzzle(value); is_puzzle(value); first_broken(puzzle, values); is_answer(puzzle, value);"
               " is_part(puzzle, value); do_agree(f, t); both_of(f, t); lies_in(f, t); pieces_of(f, k);"
               " value_at(f, cell); part_of(values, cells); questions(puzzle); asked_cells(puzzle, question);"
               " fillings(puzzle, question); agreeing(puzzle, f, question); cut_to(puzzle, f); narrowed(puzzle, kept);"
               " with_rules(puzzle, rules)",
    "texts": "rule_text(rule); read_rule(text); puzzle_text(puzzle); read_puzzle(text); grid_text(n, width, f);"
             " read_grid(text)",
    "answers": "answers(puzzle); answers_with(puzzle, part); answer_count(puzzle); first_answer(puzzle);"
               " settled(puzzle); judge_answer(puzzle, value); without_rule(puzzle, j); joint(one, other);"
               " beside(one, other); free_cells(puzzle, answer); answer_values(puzzle, c); common_part(puzzle);"
               " is_forced(puzzle, part)",
    "trees": "tree_of(puzzle); judge_tree(puzzle, value); told_answers(puzzle, tree); leaf_counts(tree);"
             " tree_depth(tree)",
    "reasons": "all_parts(puzzle, k); judge_chain(puzzle, k, value); does_clash(chain); part_rounds(puzzle, k);"
               " round_of(puzzle, k, part); chain_for(puzzle, k, part); chain_rounds(chain); needed_steps(chain);"
               " strength_in(chain); clashes(puzzle, k); clash_rounds(puzzle, k); read_off(puzzle, k, cell)",
    "books": "judge_book(puzzle, k, value); greatest_book(puzzle, k); book_of(puzzle, k, answers);"
             " both_books(one, other)",
}

P, PART, QUESTION = made.KINDS, ((0, 1), (2, 0)), ("rule", 2)
TREE = trees.tree_of(P)
CHAIN = reasons.chain_for(made.TRIO, 2, ())
BOOK = books.greatest_book(made.FREE, 2)
ODD = [[1, {"a": [2], (0, 1): ({},)}], ([3], {0: {1: []}}), True, None, "x"]

CALLS = [
    (rules.cells_of, P[1][0]), (rules.cells_of, P[1][4]), (rules.fits, P[1][6], (1, 0, 2, 1)),
    (puzzles.judge_puzzle, P), (puzzles.judge_puzzle, ODD), (puzzles.judge_puzzle, (((1,),), tuple(ODD))),
    (puzzles.is_puzzle, P), (puzzles.is_puzzle, ODD), (puzzles.first_broken, P, (0, 1, 2, 0)),
    (puzzles.is_answer, P, (0, 1, 2, 0)), (puzzles.is_answer, P, ODD), (puzzles.is_answer, P, tuple(ODD[:4])),
    (puzzles.is_part, P, PART), (puzzles.is_part, P, ODD), (puzzles.is_part, P, tuple(ODD)),
    (puzzles.do_agree, PART, ((0, 2),)), (puzzles.both_of, PART, ((1, 2),)), (puzzles.lies_in, PART, PART),
    (puzzles.pieces_of, PART, 2), (puzzles.value_at, PART, 2), (puzzles.part_of, (1, 2, 3), [2, 0]),
    (puzzles.questions, P), (puzzles.asked_cells, P, QUESTION), (puzzles.fillings, P, QUESTION),
    (puzzles.agreeing, P, PART, QUESTION), (puzzles.cut_to, P, PART), (puzzles.narrowed, P, ((1, 0),) * 4),
    (puzzles.with_rules, P, (("unlike", (0,)),)), (puzzles.with_rules, P, ()),
    (texts.puzzle_text, P), (texts.read_puzzle, texts.puzzle_text(P)), (texts.read_puzzle, ODD),
    (texts.rule_text, P[1][6]), (texts.read_rule, "below 0 1"), (texts.read_rule, ODD),
    (texts.grid_text, 4, 3, PART), (texts.read_grid, ". 3\n7"), (texts.read_grid, ODD),
    (answers.answers, P), (answers.answers_with, P, PART), (answers.answer_count, P), (answers.first_answer, P),
    (answers.settled, made.FREE), (answers.judge_answer, P, (1, 2, 3)), (answers.judge_answer, P, ODD),
    (answers.without_rule, P, 3), (answers.joint, P, P), (answers.beside, P, P), (answers.free_cells, made.FREE, (1, 2)),
    (answers.answer_values, made.FREE, 1), (answers.common_part, made.BARE), (answers.is_forced, made.BARE, ((0, 4),)),
    (trees.tree_of, P), (trees.judge_tree, P, TREE), (trees.judge_tree, P, ODD), (trees.judge_tree, P, ("cell", 0, tuple(ODD))),
    (trees.told_answers, P, TREE), (trees.leaf_counts, TREE), (trees.tree_depth, TREE),
    (reasons.all_parts, P, 2), (reasons.judge_chain, made.TRIO, 2, CHAIN), (reasons.judge_chain, P, 2, ODD),
    (reasons.judge_chain, P, 2, (((), ("cell", 0), ODD),)), (reasons.does_clash, CHAIN), (reasons.part_rounds, made.TRIO, 2),
    (reasons.round_of, made.TRIO, 2, ((0, 1),)), (reasons.chain_for, made.TRIO, 2, ((0, 1),)),
    (reasons.chain_for, made.FREE, 1, ()), (reasons.chain_rounds, CHAIN), (reasons.needed_steps, CHAIN),
    (reasons.strength_in, CHAIN), (reasons.clashes, made.TRIO, 2), (reasons.clash_rounds, made.TRIO, 2),
    (reasons.read_off, made.PAIR, 1, 0), (books.judge_book, made.FREE, 2, BOOK), (books.judge_book, made.FREE, 2, ODD),
    (books.judge_book, made.FREE, 2, (tuple(ODD),)), (books.greatest_book, made.FREE, 2),
    (books.book_of, made.FREE, 2, [(1, 2), (2, 1)]), (books.both_books, BOOK, ((),)),
]


def told(call, given):
    """What a call returns, or the error that it raises with what is told of it."""
    try:
        return call(*given)
    except PuzzleError as error:
        return [error.__class__.__name__, vars(error)]


def is_plain(value):
    return all(is_plain(member) for member in value) if type(value) is tuple else type(value) in (int, str, bool, type(None))


class InterfaceTest(unittest.TestCase):
    def test_names_and_arguments(self):
        for name, listed in NAMES.items():
            module = importlib.import_module(f"toldreasons.{name}")
            for entry in listed.split("; "):
                function = getattr(module, entry.partition("(")[0])
                self.assertEqual(function.__module__, f"toldreasons.{name}")
                self.assertEqual(f"{function.__name__}{inspect.signature(function)}", entry)

    def test_each_name_is_called_below(self):
        called = {call.__name__ for call, *given in CALLS}
        for listed in NAMES.values():
            self.assertLessEqual({entry.partition("(")[0] for entry in listed.split("; ")}, called)


class NothingIsChangedTest(unittest.TestCase):
    def test_arguments_stay_and_answers_are_equal(self):
        for call, *given in CALLS:
            before = copy.deepcopy(given)
            first = told(call, given)
            self.assertEqual(given, before, call)
            self.assertEqual(told(call, before), first, call)
            self.assertEqual(told(call, given), first, call)

    def test_what_is_returned_is_plain(self):
        for call, *given in CALLS:
            found = told(call, given)
            if not isinstance(found, list):
                self.assertTrue(is_plain(found), (call, found))

    def test_is_and_does_return_true_or_false(self):
        for call, *given in CALLS:
            if call.__name__.startswith(("is_", "do_", "does_", "lies_")) or call.__name__ in ("fits", "clashes"):
                self.assertIs(type(call(*given)), bool, call)

    def test_a_tuple_may_stand_for_a_list(self):
        self.assertEqual(books.book_of(made.FREE, 2, ((1, 2),)), books.book_of(made.FREE, 2, [(1, 2)]))

    def test_judges_tell_nothing_of_right_values(self):
        self.assertIsNone(puzzles.judge_puzzle(P))
        self.assertIsNone(trees.judge_tree(P, TREE))
        self.assertIsNone(reasons.judge_chain(made.TRIO, 2, CHAIN))
        self.assertIsNone(books.judge_book(made.FREE, 2, BOOK))


if __name__ == "__main__":
    unittest.main()
