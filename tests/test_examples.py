"""Every example that the document's interface shows for the files that there are."""

import re
import unittest

# A row of this text is a name of a file, or a statement behind >>>, or what it shows or raises.
EXAMPLES = r'''
# rules
>>> from toldreasons.rules import cells_of, fits
>>> [fits(("unlike", (0, 1, 2)), (3, 1, 3)), fits(("sum", (0, 1), 4, 6), (3, 1)), fits(("count", (0, 1, 2), (1, 5), 1, 1), (5, 2, 1)), fits(("below", 2, 0), (1, 3))]
[False, True, False, True]
>>> [fits(("runs", (0, 1, 2, 3), (2, 1)), (5, 1, 0, 2)), fits(("runs", (0, 1, 2), ()), (0, 0, 0)), fits(("runs", (0, 1, 2), (1, 1)), (1, 1, 0)), fits(("table", (1, 0), ((1, 2), (2, 1))), (2, 1))]
[True, True, False, True]
>>> [fits(("joined", (0, 1, 2), ((0, 1), (1, 2)), (7,)), (7, 0, 7)), fits(("joined", (0, 1, 2), ((0, 1), (1, 2)), (7,)), (7, 7, 0)), fits(("joined", (0, 1), (), (7,)), (0, 7)), cells_of(("below", 2, 0))]
[False, True, True, (2, 0)]
# puzzles
>>> from toldreasons.puzzles import agreeing, both_of, cut_to, do_agree, fillings, first_broken, is_answer, is_part, is_puzzle, judge_puzzle, lies_in, part_of, pieces_of, questions, value_at
>>> PUZZLE = (((1, 2), (1, 2), (1, 2, 3)), (("unlike", (0, 1, 2)), ("below", 0, 1)))
>>> [is_puzzle(PUZZLE), judge_puzzle(((), ())), judge_puzzle((((1,), (2, 1)), ())), judge_puzzle((((1,), (2,)), (("below", 0, 2),))), is_answer(PUZZLE, (1, 2, 3)), first_broken(PUZZLE, (2, 1, 3)), first_broken(PUZZLE, (3, 1, 1))]
[True, ('form',), ('domain', 1), ('rule', 0), True, ('rule', 1), ('cell', 0)]
>>> [questions(PUZZLE), fillings(PUZZLE, ("cell", 1)), fillings(PUZZLE, ("rule", 1)), agreeing(PUZZLE, ((2, 1),), ("rule", 0))]
[(('cell', 0), ('cell', 1), ('cell', 2), ('rule', 0), ('rule', 1)), (((1, 1),), ((1, 2),)), (((0, 1), (1, 2)),), ()]
>>> [is_part(PUZZLE, ((0, 1), (2, 3))), is_part(PUZZLE, ((2, 3), (0, 1))), do_agree(((0, 1),), ((0, 2), (1, 1))), both_of(((0, 1),), ((0, 1), (2, 3))), lies_in((), ((0, 1),)), value_at(((0, 1),), 2), part_of((1, 2, 3), (2, 0))]
[True, False, False, ((0, 1), (2, 3)), True, None, ((0, 1), (2, 3))]
>>> [pieces_of(((0, 1), (2, 3)), 1), pieces_of((), 4), cut_to(PUZZLE, ((2, 3),))[0]]
[((), ((0, 1),), ((2, 3),)), ((),), ((1, 2), (1, 2), (3,))]
# texts
>>> from toldreasons.texts import grid_text, puzzle_text, read_grid, read_puzzle, read_rule, rule_text
>>> PUZZLE = (((1, 2), (1, 2), (1, 2, 3), ()), (("unlike", (0, 1, 2)), ("sum", (2, 0), 3, 5), ("joined", (0, 1, 2), ((0, 1), (1, 2)), (1, 2))))
>>> puzzle_text(PUZZLE).split("\n")
['cell 1 2', 'cell 1 2', 'cell 1 2 3', 'cell -', 'unlike 0 1 2', 'sum 2 0 from 3 to 5', 'joined 0 1 2 ties 0-1 1-2 of 1 2']
>>> [read_puzzle(puzzle_text(PUZZLE)) == PUZZLE, rule_text(("table", (1, 0), ((1, 2), (2, 1)))), read_rule("runs 0 1 2 of -"), read_rule("count 3 1 of 1 5 from 0 to 2")]
[True, 'table 1 0 rows 1 2, 2 1', ('runs', (0, 1, 2), ()), ('count', (3, 1), (1, 5), 0, 2)]
>>> [grid_text(5, 2, ((0, 7), (3, 12))), read_grid("7 .\n. 12\n."), read_grid("3")]
['7 .\n. 12\n.', (5, 2, ((0, 7), (3, 12))), (1, 1, ((0, 3),))]
>>> read_rule("sum 0 1 to 3")
raises BadText(8)
>>> read_grid(". .\n. . .")
raises BadText(7)
# answers
>>> from toldreasons.answers import answer_count, answer_values, answers, answers_with, beside, common_part, first_answer, free_cells, is_forced, joint, judge_answer, settled, without_rule
>>> PUZZLE = (((1, 2), (1, 2), (1, 2, 3)), (("unlike", (0, 1, 2)), ("below", 0, 1)))
>>> OPEN = (((1, 2), (1, 2)), (("unlike", (0, 1)),))
>>> [answers(PUZZLE), answers(OPEN), answers_with(OPEN, ((1, 1),)), answer_count(OPEN), first_answer(OPEN), settled(PUZZLE), settled(OPEN)]
[((1, 2, 3),), ((1, 2), (2, 1)), ((2, 1),), 2, (1, 2), ((1, 2, 3),), ((1, 2), (2, 1))]
>>> [judge_answer(PUZZLE, (1, 2, 3)), judge_answer(PUZZLE, (2, 1, 3)), judge_answer(PUZZLE, (1, 2, 4)), judge_answer(PUZZLE, (1, 2))]
[None, ('rule', 1), ('cell', 2), ('form',)]
>>> [without_rule(PUZZLE, 0)[1], joint(OPEN, OPEN)[1], beside((((1,),), ()), OPEN)]
[(('below', 0, 1),), (('unlike', (0, 1)), ('unlike', (0, 1))), (((1,), (1, 2), (1, 2)), (('unlike', (1, 2)),))]
>>> [free_cells(OPEN, (1, 2)), free_cells(PUZZLE, (1, 2, 3)), answer_values(OPEN, 0), common_part(OPEN), common_part(PUZZLE), is_forced(PUZZLE, ((2, 3),)), is_forced(OPEN, ((0, 1),))]
[(0, 1), (), (1, 2), (), ((0, 1), (1, 2), (2, 3)), True, False]
# trees
>>> from toldreasons.trees import judge_tree, leaf_counts, told_answers, tree_depth, tree_of
>>> TREE = tree_of(PUZZLE)
>>> TREE
('cell', 0, (('cell', 1, (('clash', 0), ('cell', 2, (('clash', 0), ('clash', 0), ('answer',))))), ('clash', 1)))
>>> [judge_tree(PUZZLE, TREE), told_answers(PUZZLE, TREE), leaf_counts(TREE), tree_depth(TREE), tree_of((((1,), ()), ()))]
[None, ((1, 2, 3),), (4, 0, 1), 3, ('empty', 1)]
>>> [judge_tree(PUZZLE, ("clash", 0)), judge_tree(PUZZLE, ("cell", 0, (("clash", 1), ("clash", 1)))), judge_tree(PUZZLE, ("cell", 0, ())), judge_tree(PUZZLE, None)]
[('clash', ()), ('clash', (1,)), ('cell', ()), ('form', ())]
# reasons
>>> from toldreasons.reasons import all_parts, chain_for, chain_rounds, clash_rounds, clashes, does_clash, judge_chain
>>> from toldreasons.reasons import needed_steps, part_rounds, read_off, round_of, strength_in
>>> PAIR = (((0, 1), (0, 1)), (("below", 0, 1),))
>>> TRIO = (((1, 2), (1, 2), (1, 2)), (("unlike", (0, 1)), ("unlike", (1, 2)), ("unlike", (0, 2))))
>>> [all_parts(PAIR, 1), len(all_parts(TRIO, 2)), judge_chain(PAIR, 1, ())]
[((), ((0, 0),), ((0, 1),), ((1, 0),), ((1, 1),)), 19, None]
>>> all_parts(PAIR, 2)
((), ((0, 0),), ((0, 0), (1, 0)), ((0, 0), (1, 1)), ((0, 1),), ((0, 1), (1, 0)), ((0, 1), (1, 1)), ((1, 0),), ((1, 1),))
>>> [part_rounds(PAIR, 1), round_of(PAIR, 1, ()), read_off(PAIR, 1, 0), clashes(TRIO, 1), clashes(TRIO, 2), clash_rounds(TRIO, 2)]
[((((0, 1),), 1), (((1, 0),), 1)), None, (0,), False, True, 3]
>>> CHAIN = ((((0, 1),), ("rule", 0), ()), (((0, 1),), ("cell", 1), (0, 0)))
>>> [judge_chain(PAIR, 1, CHAIN), chain_rounds(CHAIN), needed_steps(CHAIN) == CHAIN, does_clash(CHAIN), strength_in(CHAIN)]
[None, 2, True, False, 1]
>>> LATE = ((((0, 1), (1, 1)), ("rule", 0), ()),)
>>> [judge_chain(PAIR, 1, ((((0, 0),), ("rule", 0), ()),)), judge_chain(PAIR, 1, CHAIN[1:]), judge_chain(TRIO, 1, LATE)]
[('uses', 0), ('form', 0), ('form', 0)]
>>> [chain_for(PAIR, 1, ((0, 1),)), round_of(TRIO, 2, ((0, 1), (1, 1))), round_of(TRIO, 2, ((0, 1), (1, 2))), round_of(TRIO, 2, ((0, 1),))]
[((((0, 1),), ('rule', 0), ()),), 1, 2, 2]
>>> LONG = chain_for(TRIO, 2, ())
>>> [judge_chain(TRIO, 2, LONG), does_clash(LONG), chain_rounds(LONG), strength_in(LONG), needed_steps(LONG) == LONG]
[None, True, 3, 2, True]
>>> chain_for(PAIR, 1, ())
raises NoReason()
# books
>>> from toldreasons.books import book_of, both_books, greatest_book, judge_book
>>> PAIR = (((0, 1), (0, 1)), (("below", 0, 1),))
>>> TRIO = (((1, 2), (1, 2), (1, 2)), (("unlike", (0, 1)), ("unlike", (1, 2)), ("unlike", (0, 2))))
>>> [greatest_book(PAIR, 1), greatest_book(TRIO, 2), len(greatest_book(TRIO, 1)), book_of(PAIR, 1, [(0, 1)]), both_books((), greatest_book(PAIR, 1))]
[((), ((0, 0),), ((1, 1),)), (), 7, ((), ((0, 0),), ((1, 1),)), ((), ((0, 0),), ((1, 1),))]
>>> [judge_book(PAIR, 1, greatest_book(PAIR, 1)), judge_book(PAIR, 1, ()), judge_book(PAIR, 1, ((),)), judge_book(PAIR, 1, (((0, 0),),))]
[None, None, ('question', (), ('cell', 0)), ('within', ((0, 0),), ())]
>>> [judge_book(PAIR, 1, ((), ((0, 0), (1, 1)))), judge_book(PAIR, 1, None)]
[('form',), ('form',)]
'''


def shown(statement, names):
    """What a statement shows, None if it is no expression."""
    try:
        code = compile(statement, "example", "eval")
    except SyntaxError:
        exec(statement, names)
        return None
    try:
        return repr(eval(code, names))
    except ValueError as error:
        told = ", ".join(repr(value) for value in vars(error).values())
        return f"raises {type(error).__name__}({told})"


class ExamplesTest(unittest.TestCase):
    def test_examples(self):
        names = {}
        many = 0
        for example in re.split(r"^>>> ", EXAMPLES, flags=re.MULTILINE)[1:]:
            statement, *rows = example.rstrip("\n").split("\n")
            expected = [row for row in rows if not row.startswith("# ")]
            found = shown(statement, names)
            if expected:
                many += 1
                self.assertEqual([found], expected, statement)
        self.assertEqual(many, 30)


if __name__ == "__main__":
    unittest.main()
