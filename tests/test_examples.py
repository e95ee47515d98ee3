"""Every example that the document's interface shows for the files that there are."""

import re
import unittest

# A row of this text is a name of a file, or a statement behind >>>, or what it shows or raises.
EXAMPLES = r'''
# rules
>>> from toldreasons.rules import cells_of, fits
>>> [fits(("unlike", (0, 1, 2)), (3, 1, 3)), fits(("sum", (0, 1), 4, 6), (3, 1)), fits(("count", (0, 1, 2), (1, 5), 1, 1), (5, 2, 1)), fits(("below", 2, 0), (1, 3))]
[False, True, False, True]
>>> [fits(("runs", (0, 1, 2, 3), (2, 1)), (5, 1, 0, 2)), fits(("runs", (0, 1, 2), ()), (0, 0, 0)), fits(("runs", (0, 1, 2), (1, 1)), (1, 1, 0)), fits(("table", (1, 0), ((1, 2), (2, 1))), (2, 1))]
[True, True, False, True]
>>> [fits(("joined", (0, 1, 2), ((0, 1), (1, 2)), (7,)), (7, 0, 7)), fits(("joined", (0, 1, 2), ((0, 1), (1, 2)), (7,)), (7, 7, 0)), fits(("joined", (0, 1), (), (7,)), (0, 7)), cells_of(("below", 2, 0))]
[False, True, True, (2, 0)]
# puzzles
>>> from toldreasons.puzzles import agreeing, both_of, cut_to, do_agree, fillings, first_broken, is_answer, is_part, is_puzzle, judge_puzzle, lies_in, part_of, pieces_of, questions, value_at
>>> PUZZLE = (((1, 2), (1, 2), (1, 2, 3)), (("unlike", (0, 1, 2)), ("below", 0, 1)))
>>> [is_puzzle(PUZZLE), judge_puzzle(((), ())), judge_puzzle((((1,), (2, 1)), ())), judge_puzzle((((1,), (2,)), (("below", 0, 2),))), is_answer(PUZZLE, (1, 2, 3)), first_broken(PUZZLE, (2, 1, 3)), first_broken(PUZZLE, (3, 1, 1))]
[True, ('form',), ('domain', 1), ('rule', 0), True, ('rule', 1), ('cell', 0)]
>>> [questions(PUZZLE), fillings(PUZZLE, ("cell", 1)), fillings(PUZZLE, ("rule", 1)), agreeing(PUZZLE, ((2, 1),), ("rule", 0))]
[(('cell', 0), ('cell', 1), ('cell', 2), ('rule', 0), ('rule', 1)), (((1, 1),), ((1, 2),)), (((0, 1), (1, 2)),), ()]
>>> [is_part(PUZZLE, ((0, 1), (2, 3))), is_part(PUZZLE, ((2, 3), (0, 1))), do_agree(((0, 1),), ((0, 2), (1, 1))), both_of(((0, 1),), ((0, 1), (2, 3))), lies_in((), ((0, 1),)), value_at(((0, 1),), 2), part_of((1, 2, 3), (2, 0))]
[True, False, False, ((0, 1), (2, 3)), True, None, ((0, 1), (2, 3))]
>>> [pieces_of(((0, 1), (2, 3)), 1), pieces_of((), 4), cut_to(PUZZLE, ((2, 3),))[0]]
[((), ((0, 1),), ((2, 3),)), ((),), ((1, 2), (1, 2), (3,))]
# texts
>>> from toldreasons.texts import grid_text, puzzle_text, read_grid, read_puzzle, read_rule, rule_text
>>> PUZZLE = (((1, 2), (1, 2), (1, 2, 3), ()), (("unlike", (0, 1, 2)), ("sum", (2, 0), 3, 5), ("joined", (0, 1, 2), ((0, 1), (1, 2)), (1, 2))))
>>> puzzle_text(PUZZLE).split("\n")
['cell 1 2', 'cell 1 2', 'cell 1 2 3', 'cell -', 'unlike 0 1 2', 'sum 2 0 from 3 to 5', 'joined 0 1 2 ties 0-1 1-2 of 1 2']
>>> [read_puzzle(puzzle_text(PUZZLE)) == PUZZLE, rule_text(("table", (1, 0), ((1, 2), (2, 1)))), read_rule("runs 0 1 2 of -"), read_rule("count 3 1 of 1 5 from 0 to 2")]
[True, 'table 1 0 rows 1 2, 2 1', ('runs', (0, 1, 2), ()), ('count', (3, 1), (1, 5), 0, 2)]
>>> [grid_text(5, 2, ((0, 7), (3, 12))), read_grid("7 .\n. 12\n."), read_grid("3")]
['7 .\n. 12\n.', (5, 2, ((0, 7), (3, 12))), (1, 1, ((0, 3),))]
>>> read_rule("sum 0 1 to 3")
raises BadText(8)
>>> read_grid(". .\n. . .")
raises BadText(7)
# answers
>>> from toldreasons.answers import answer_count, answer_values, answers, answers_with, beside, common_part, first_answer, free_cells, is_forced, joint, judge_answer, settled, without_rule
>>> PUZZLE = (((1, 2), (1, 2), (1, 2, 3)), (("unlike", (0, 1, 2)), ("below", 0, 1)))
>>> OPEN = (((1, 2), (1, 2)), (("unlike", (0, 1)),))
>>> [answers(PUZZLE), answers(OPEN), answers_with(OPEN, ((1, 1),)), answer_count(OPEN), first_answer(OPEN), settled(PUZZLE), settled(OPEN)]
[((1, 2, 3),), ((1, 2), (2, 1)), ((2, 1),), 2, (1, 2), ((1, 2, 3),), ((1, 2), (2, 1))]
>>> [judge_answer(PUZZLE, (1, 2, 3)), judge_answer(PUZZLE, (2, 1, 3)), judge_answer(PUZZLE, (1, 2, 4)), judge_answer(PUZZLE, (1, 2))]
[None, ('rule', 1), ('cell', 2), ('form',)]
>>> [without_rule(PUZZLE, 0)[1], joint(OPEN, OPEN)[1], beside((((1,),), ()), OPEN)]
[(('below', 0, 1),), (('unlike', (0, 1)), ('unlike', (0, 1))), (((1,), (1, 2), (1, 2)), (('unlike', (1, 2)),))]
>>> [free_cells(OPEN, (1, 2)), free_cells(PUZZLE, (1, 2, 3)), answer_values(OPEN, 0), common_part(OPEN), common_part(PUZZLE), is_forced(PUZZLE, ((2, 3),)), is_forced(OPEN, ((0, 1),))]
[(0, 1), (), (1, 2), (), ((0, 1), (1, 2), (2, 3)), True, False]
# trees
>>> from toldreasons.trees import judge_tree, leaf_counts, told_answers, tree_depth, tree_of
>>> TREE = tree_of(PUZZLE)
>>> TREE
('cell', 0, (('cell', 1, (('clash', 0), ('cell', 2, (('clash', 0), ('clash', 0), ('answer',))))), ('clash', 1)))
>>> [judge_tree(PUZZLE, TREE), told_answers(PUZZLE, TREE), leaf_counts(TREE), tree_depth(TREE), tree_of((((1,), ()), ()))]
[None, ((1, 2, 3),), (4, 0, 1), 3, ('empty', 1)]
>>> [judge_tree(PUZZLE, ("clash", 0)), judge_tree(PUZZLE, ("cell", 0, (("clash", 1), ("clash", 1)))), judge_tree(PUZZLE, ("cell", 0, ())), judge_tree(PUZZLE, None)]
[('clash', ()), ('clash', (1,)), ('cell', ()), ('form', ())]
# reasons
>>> from toldreasons.reasons import all_parts, chain_for, chain_rounds, clash_rounds, clashes, does_clash, judge_chain
>>> from toldreasons.reasons import needed_steps, part_rounds, read_off, round_of, strength_in
>>> PAIR = (((0, 1), (0, 1)), (("below", 0, 1),))
>>> TRIO = (((1, 2), (1, 2), (1, 2)), (("unlike", (0, 1)), ("unlike", (1, 2)), ("unlike", (0, 2))))
>>> [all_parts(PAIR, 1), len(all_parts(TRIO, 2)), judge_chain(PAIR, 1, ())]
[((), ((0, 0),), ((0, 1),), ((1, 0),), ((1, 1),)), 19, None]
>>> all_parts(PAIR, 2)
((), ((0, 0),), ((0, 0), (1, 0)), ((0, 0), (1, 1)), ((0, 1),), ((0, 1), (1, 0)), ((0, 1), (1, 1)), ((1, 0),), ((1, 1),))
>>> [part_rounds(PAIR, 1), round_of(PAIR, 1, ()), read_off(PAIR, 1, 0), clashes(TRIO, 1), clashes(TRIO, 2), clash_rounds(TRIO, 2)]
[((((0, 1),), 1), (((1, 0),), 1)), None, (0,), False, True, 3]
>>> CHAIN = ((((0, 1),), ("rule", 0), ()), (((0, 1),), ("cell", 1), (0, 0)))
>>> [judge_chain(PAIR, 1, CHAIN), chain_rounds(CHAIN), needed_steps(CHAIN) == CHAIN, does_clash(CHAIN), strength_in(CHAIN)]
[None, 2, True, False, 1]
>>> LATE = ((((0, 1), (1, 1)), ("rule", 0), ()),)
>>> [judge_chain(PAIR, 1, ((((0, 0),), ("rule", 0), ()),)), judge_chain(PAIR, 1, CHAIN[1:]), judge_chain(TRIO, 1, LATE)]
[('uses', 0), ('form', 0), ('form', 0)]
>>> [chain_for(PAIR, 1, ((0, 1),)), round_of(TRIO, 2, ((0, 1), (1, 1))), round_of(TRIO, 2, ((0, 1), (1, 2))), round_of(TRIO, 2, ((0, 1),))]
[((((0, 1),), ('rule', 0), ()),), 1, 2, 2]
>>> LONG = chain_for(TRIO, 2, ())
>>> [judge_chain(TRIO, 2, LONG), does_clash(LONG), chain_rounds(LONG), strength_in(LONG), needed_steps(LONG) == LONG]
[None, True, 3, 2, True]
>>> chain_for(PAIR, 1, ())
raises NoReason()
# books
>>> from toldreasons.books import book_of, both_books, greatest_book, judge_book
>>> PAIR = (((0, 1), (0, 1)), (("below", 0, 1),))
>>> TRIO = (((1, 2), (1, 2), (1, 2)), (("unlike", (0, 1)), ("unlike", (1, 2)), ("unlike", (0, 2))))
>>> [greatest_book(PAIR, 1), greatest_book(TRIO, 2), len(greatest_book(TRIO, 1)), book_of(PAIR, 1, [(0, 1)]), both_books((), greatest_book(PAIR, 1))]
[((), ((0, 0),), ((1, 1),)), (), 7, ((), ((0, 0),), ((1, 1),)), ((), ((0, 0),), ((1, 1),))]
>>> [judge_book(PAIR, 1, greatest_book(PAIR, 1)), judge_book(PAIR, 1, ()), judge_book(PAIR, 1, ((),)), judge_book(PAIR, 1, (((0, 0),),))]
[None, None, ('question', (), ('cell', 0)), ('within', ((0, 0),), ())]
>>> [judge_book(PAIR, 1, ((), ((0, 0), (1, 1)))), judge_book(PAIR, 1, None)]
[('form',), ('form',)]
# game
>>> from toldreasons.game import answered_out, answerer_move, asked_out, asker_move, judge_game, longest_stand, winner
>>> [winner(PAIR, 1, ((0, 1),)), winner(PAIR, 1, ()), asker_move(PAIR, 1, ((0, 1),)), answerer_move(PAIR, 1, (), ("rule", 0)), winner(TRIO, 2, ())]
[('asker', 1), ('answerer',), (('rule', 0), ()), ((0, 0), (1, 1)), ('asker', 3)]
>>> [asked_out(PAIR, 1, ((0, 1),), [3]), len(asked_out(TRIO, 2, (), [1])), len(longest_stand(TRIO, 2, ()))]
[((('rule', 0), None, None),), 3, 3]
>>> GAME = answered_out(PAIR, 1, (), [(2, 1), (1, 0)])
>>> GAME
((('rule', 0), ((0, 0), (1, 1)), ((0, 0),)), (('cell', 1), ((1, 1),), ()))
>>> [judge_game(PAIR, 1, (), GAME), judge_game(PAIR, 1, (), GAME[1:]), judge_game(PAIR, 1, ((1, 0),), GAME), judge_game(PAIR, 1, (), ((("cell", 0), None, None),))]
[None, None, ('filling', 0), ('filling', 0)]
>>> answerer_move(PAIR, 1, ((0, 1),), ("cell", 0))
raises IsLost()
# strength
>>> from toldreasons.strength import first_reason, hint, joined_chains, judge_strength, least_clash, least_solving, left_by, profile, strength_paper
>>> from toldreasons.strength import struck_by, verdict
>>> THREE = (((1, 2), (1, 2), (1, 2)), (("unlike", (0, 1)), ("unlike", (0, 2)), ("unlike", (1, 2))))
>>> [verdict(THREE, 1), verdict(THREE, 2), least_clash(THREE), least_solving(THREE), left_by(THREE, 1), struck_by(THREE, 2)]
[('open',), ('clash',), 2, None, ((1, 2), (1, 2), (1, 2)), ((0, 1), (0, 2), (1, 1), (1, 2), (2, 1), (2, 2))]
>>> TOLD = (((1,), (1, 2), (1, 2, 3)), (("unlike", (0, 1)), ("unlike", (0, 1, 2))))
>>> [verdict(TOLD, 1), least_solving(TOLD), least_clash(TOLD), struck_by(TOLD, 1), profile(TOLD, 1)]
[('solved', (1, 2, 3)), 1, None, ((1, 1), (2, 1), (2, 2)), ((1, 3, 1, 'solved'),)]
>>> [hint(THREE, 1), hint(TOLD, 1)[0], first_reason(TOLD, ((1, 1),), 1), first_reason(THREE, (), 1)]
[None, ((1, 1), (2, 1), (2, 2)), (1, 1, (2, 1)), None]
>>> [len(joined_chains(TOLD, 1, (((1, 1),), ((1, 1),)))), strength_paper(THREE)[:2], strength_paper(TOLD)[:3], strength_paper((((1, 2),), ()))]
[1, ('clash', 2), ('solved', 1, (1, 2, 3)), ('several', (1,), (2,))]
>>> [judge_strength(THREE, strength_paper(THREE)), judge_strength(TOLD, ("several", (1, 2, 3), (1, 2, 3))), judge_strength(TOLD, None)]
[None, ('answer',), ('form',)]
>>> [judge_strength(TOLD, ("solved", 1, (1, 2, 3), (), (), None)), judge_strength(THREE, ("clash", 2, strength_paper(THREE)[2], ()))]
[('reach', ((1, 1),)), ('book', ('missing',))]
# widths
>>> from toldreasons.widths import along, bag_behind, bags_of, is_ties, judge_lots, judge_runaway, judge_width, least_width, lots_within
>>> from toldreasons.widths import neighbours, runaway, taken_off, width_of, width_paper
>>> RING = ((1, 3), (0, 2), (1, 3), (0, 2))
>>> [is_ties(RING), is_ties(((1,), ())), taken_off(RING, 0, (0, 1, 2, 3)), bags_of(RING, (0, 1, 2, 3)), width_of(RING, (0, 1, 2, 3))]
[True, False, ((), (2, 3), (1, 3), (1, 2)), ((0, (1, 3)), (1, (2, 3)), (2, (3,)), (3, ())), 2]
>>> [bag_behind(RING, (0,), 1), bag_behind(RING, (0, 1), 2), least_width(RING), least_width(((1,), (0, 2), (1,))), least_width(())]
[(2, 3), (3,), (2, (0, 1, 2, 3)), (1, (0, 1, 2)), (0, ())]
>>> [lots_within(RING, 2), lots_within(((1,), (0, 2), (1,)), 1), lots_within(((1,), (0,)), 2), judge_lots(RING, 2, ((),)), judge_lots(RING, 3, ((),))]
[((),), ((),), ((), (0,), (0, 1), (1,)), None, ('next', (), 0)]
>>> [width_paper(((1,), (0,))), judge_width(RING, width_paper(RING)), judge_width(RING, (1, (0, 1, 2, 3), ())), judge_width((), (0, (), ()))]
[(1, (0, 1), ((),)), None, ('width', 2), None]
>>> [runaway(((1,), (0,)), 1), runaway(RING, 3), judge_runaway(RING, 2, runaway(RING, 2)), len(runaway(RING, 2))]
[(((), (0, 1)), ((0,), (1,)), ((1,), (0,))), (), None, 13]
>>> [judge_runaway(RING, 2, ()), judge_runaway(RING, 1, (((), (0, 1, 2, 3)),)), judge_runaway(RING, 1, (((), (0,)),))]
[('form',), ('shut', 0, 0), ('stand', 0)]
>>> PUZZLE = (((1, 2), (1, 2), (1, 2)), (("unlike", (0, 1)), ("unlike", (1, 2))))
>>> [neighbours(PUZZLE), along(PUZZLE, (0, 1, 2), 2)]
[((1,), (0, 2), (1,)), (1, 2, 1)]
# live
>>> from toldreasons.live import live_paper, live_plain, live_values, row_with
>>> DOMAINS, UNLIKE = ((1, 2), (1, 2), (1, 2, 3)), ("unlike", (2, 0, 1))
>>> [live_plain(DOMAINS, UNLIKE), live_values(DOMAINS, UNLIKE), row_with(DOMAINS, UNLIKE, 0, 2), row_with(DOMAINS, UNLIKE, 2, 1)]
[((0, 1), (0, 2), (1, 1), (1, 2), (2, 3)), ((0, 1), (0, 2), (1, 1), (1, 2), (2, 3)), (3, 2, 1), None]
>>> SUM, COUNT, BELOW = ("sum", (0, 1), 4, 9), ("count", (0, 1, 2), (3,), 1, 2), ("below", 2, 0)
>>> [live_values(DOMAINS, SUM), live_values(DOMAINS, COUNT), live_values(DOMAINS, BELOW)]
[((0, 2), (1, 2)), ((0, 1), (0, 2), (1, 1), (1, 2), (2, 3)), ((0, 2), (2, 1))]
>>> [live_paper(DOMAINS, SUM, 0, 1), live_paper(DOMAINS, COUNT, 2, 1), live_paper(DOMAINS, BELOW, 2, 2), live_paper(((1,), ()), BELOW[:1] + (1, 0), 0, 1)]
[('dead', 'sums', ((0,), (1, 2))), ('dead', 'count', 0, 0), ('dead', 'below'), ('dead', 'empty', 1)]
>>> RUNS, JOINED = ("runs", (0, 1, 2), (2,)), ("joined", (0, 1, 2), ((0, 1), (1, 2)), (5,))
>>> [live_values(((0, 1), (0, 1), (0,)), RUNS), live_paper(((0, 1), (0, 1), (0,)), RUNS, 0, 0)]
[((0, 1), (1, 1), (2, 0)), ('dead', 'runs', (((0, 0),), ((0, 0),), ((0, 0), (0, 1)), ((0, 0),)))]
>>> [live_values(((5,), (0, 5), (5,)), JOINED), live_paper(((5,), (0, 5), (5,)), JOINED, 1, 0)]
[((0, 5), (1, 5), (2, 5)), ('dead', 'parted', (0,))]
# judging
>>> from toldreasons.judging import judge_live
>>> [judge_live(DOMAINS, UNLIKE, 2, 1, ("dead", "lot", (0, 1), (2,))), judge_live(DOMAINS, UNLIKE, 2, 1, ("dead", "lot", (0,), (2,))), judge_live(DOMAINS, UNLIKE, 2, 1, live_paper(DOMAINS, UNLIKE, 2, 1))]
[None, ('reason',), None]
>>> [judge_live(DOMAINS, UNLIKE, 0, 2, ("live", (3, 2, 1))), judge_live(DOMAINS, UNLIKE, 0, 2, ("live", (3, 1, 2))), judge_live(DOMAINS, UNLIKE, 0, 2, ("live",))]
[None, ('row',), ('form',)]
>>> [judge_live(((5,), (0, 5), (5,)), JOINED, 1, 0, ("dead", "parted", (2,))), judge_live(((5,), (0, 5), (5,)), JOINED, 1, 5, ("dead", "parted", (2,)))]
[None, ('reason',)]
# leaving
>>> from toldreasons.leaving import dead_strikes, judge_dead, live_domains
>>> THREE = (0, 1, 2)
>>> PUZZLE = ((THREE, THREE, THREE), (("unlike", (0, 1)), ("unlike", (1, 2)), ("unlike", (0, 2)), ("below", 0, 1)))
>>> [live_domains(PUZZLE), dead_strikes(PUZZLE), live_domains(((THREE, ()), ())), dead_strikes(((THREE, ()), ()))]
[((0, 1), (1, 2), (0, 1, 2)), ((3, 0, 2), (3, 1, 0)), ((), ()), ()]
>>> [judge_dead(PUZZLE, ((3, 1, 0), (3, 0, 2))), judge_dead(PUZZLE, ((3, 0, 2),)), judge_dead(PUZZLE, ((3, 0, 2), (3, 0, 2))), judge_dead(PUZZLE, ((0, 0, 1),)), judge_dead(PUZZLE, None)]
[None, ('more', 3, 1, 0), ('stands', 1), ('live', 0), ('form',)]
# maker
>>> from toldreasons.maker import clues_of, difference_lots, fewest_clues, judge_least, least_clues, made_all, needed_for, reaches, sure_clues
>>> THREE = (0, 1, 2)
>>> PUZZLE = ((THREE, THREE, THREE), (("unlike", (0, 1)), ("unlike", (1, 2)), ("unlike", (0, 2)), ("below", 0, 1)))
>>> ANSWER, ONE = (0, 1, 2), ("one",)
>>> [clues_of(ANSWER), reaches(PUZZLE, ((2, 2),), ONE), reaches(PUZZLE, ((0, 0),), ONE), reaches(PUZZLE, ((2, 2),), ("strength", 1))]
[((0, 0), (1, 1), (2, 2)), True, False, True]
>>> [least_clues(PUZZLE, ANSWER, (0, 1, 2), ONE), least_clues(PUZZLE, ANSWER, (2, 1, 0), ONE), least_clues(PUZZLE, ANSWER, (2, 0, 1), ONE)]
[((2, 2),), ((1, 1),), ((1, 1),)]
>>> [judge_least(PUZZLE, ANSWER, ONE, ((2, 2),)), judge_least(PUZZLE, ANSWER, ONE, ((0, 0),)), judge_least(PUZZLE, ANSWER, ONE, ((0, 0), (2, 2))), judge_least(PUZZLE, ANSWER, ONE, ((0, 1),))]
[None, ('reach',), ('spare', 0), ('form',)]
>>> [needed_for(PUZZLE, ((2, 2),), 2), difference_lots(PUZZLE, ANSWER), fewest_clues(PUZZLE, ANSWER, ONE), sure_clues(PUZZLE, ANSWER, ONE), made_all(PUZZLE, ANSWER, ONE)]
[(0, 2, 1), ((1, 2),), ((1, 1),), (), (((1, 1),), ((2, 2),))]
# hardness
>>> from toldreasons.hardness import harder, hardest_clues, hardness, made_puzzle
>>> [hardness(PUZZLE), hardness((((1,),), ())), harder(None, (3, 9)), harder((2, 1), (1, 9)), harder((1, 2), (1, 2))]
[None, (1, 0), True, True, False]
>>> [hardest_clues(PUZZLE, ANSWER), made_puzzle(PUZZLE, (0, 1, 2), ONE), made_puzzle((((),), ()), (0,), ONE)]
[((1, 1),), (((2, 2),), (0, 1, 2), (1, 2)), None]
# alike
>>> from toldreasons.alike import all_values, find_leading, judge_leading, led, led_after, led_answer, led_back, led_part, plain, standing
>>> PUZZLE = (((1, 2), (1, 2), (1, 2, 3)), (("unlike", (0, 1, 2)), ("below", 0, 1)))
>>> OPEN = (((1, 2), (1, 2)), (("unlike", (0, 1)),))
>>> [plain(PUZZLE)[1], plain(OPEN), all_values(PUZZLE)]
[(('table', (0, 1), ((1, 2),)), ('table', (0, 1, 2), ((1, 2, 3), (2, 1, 3)))), (((1, 2), (1, 2)), (('table', (0, 1), ((1, 2), (2, 1))),)), (1, 2, 3)]
>>> ROUND = ((1, 2, 0), ((1, 5), (2, 0), (3, 7)))
>>> [led_part(ROUND, ((0, 1), (2, 3))), led_answer(ROUND, (1, 2, 3)), led(PUZZLE, ROUND)[0], led(PUZZLE, ROUND)[1][1]]
[((0, 7), (1, 5)), (7, 5, 0), ((0, 5, 7), (0, 5), (0, 5)), ('table', (1, 2), ((5, 0),))]
>>> [led_back(ROUND), led_after(ROUND, led_back(ROUND)) == standing(PUZZLE), led(led(PUZZLE, ROUND), led_back(ROUND)) == plain(PUZZLE)]
[((2, 0, 1), ((0, 2), (5, 1), (7, 3))), True, True]
>>> [find_leading(PUZZLE, OPEN), judge_leading(PUZZLE, led(PUZZLE, ROUND), find_leading(PUZZLE, led(PUZZLE, ROUND)))]
[None, None]
>>> [judge_leading(OPEN, OPEN, ((1, 0), ((1, 1), (2, 2)))), judge_leading(PUZZLE, OPEN, standing(PUZZLE)), judge_leading(PUZZLE, PUZZLE, ((1, 0, 2), ((1, 1), (2, 2), (3, 3)))), judge_leading(OPEN, OPEN, ((0, 0), ()))]
[None, ('cells',), ('table', (0, 1)), ('form',)]
# symmetry
>>> from toldreasons.symmetry import cell_lots, least_form, least_leading, own_leadings, own_turns, standing_pairs, turned, turned_cells, unlike_answers
>>> own_leadings(OPEN)
(((0, 1), ((1, 1), (2, 2))), ((0, 1), ((1, 2), (2, 1))), ((1, 0), ((1, 1), (2, 2))), ((1, 0), ((1, 2), (2, 1))))
>>> [cell_lots(OPEN), cell_lots(PUZZLE), unlike_answers(OPEN), standing_pairs(OPEN), least_form(OPEN), len(own_leadings(PUZZLE))]
[((0, 1),), ((0, 1), (2,)), ((1, 2),), 4, (((0, 1), (0, 1)), (('table', (0, 1), ((0, 1), (1, 0))),)), 2]
>>> [led(OPEN, least_leading(OPEN)) == least_form(OPEN), least_form(led(PUZZLE, ROUND)) == least_form(PUZZLE)]
[True, True]
>>> [turned_cells(3, 2, "left"), turned_cells(3, 2, "other"), len(own_turns((((1, 2),), ()), 1, 1))]
[(4, 2, 0, 5, 3, 1), (5, 3, 1, 4, 2, 0), 8]
>>> [turned_cells(3, 2, "right"), turned_cells(3, 2, "across"), own_turns(OPEN, 2, 1), turned(OPEN, 2, 1, "right") == plain(OPEN)]
[(1, 3, 5, 0, 2, 4), (2, 1, 0, 5, 4, 3), ('same', 'half', 'across', 'down'), True]
# kinds
>>> from toldreasons.kinds import box_lots, boxed, cell_at, cells_about, column_cells, mined, painted, place_of, roaded, row_cells, side_ties, signed, squares, summed
>>> [cell_at((2, 3), 1, 2), place_of((2, 3), 5), row_cells((2, 3), 1), column_cells((2, 3), 0), box_lots((2, 4), 2, 2), side_ties((2, 2)), cells_about((2, 3), 0)]
[5, (1, 2), (3, 4, 5), (0, 3), ((0, 1, 4, 5), (2, 3, 6, 7)), ((0, 1), (0, 2), (1, 3), (2, 3)), (1, 3, 4)]
>>> squares(2)
(((1, 2), (1, 2), (1, 2), (1, 2)), (('unlike', (0, 1)), ('unlike', (2, 3)), ('unlike', (0, 2)), ('unlike', (1, 3))))
>>> [boxed(1, 2)[1][4:], signed(2, ((0, 1),))[1][4:], boxed(2, 2)[1][8]]
[(('unlike', (0, 1)), ('unlike', (2, 3))), (('below', 0, 1),), ('unlike', (0, 1, 4, 5))]
>>> summed((1, 2), 3, (((0, 1), 4),))
(((1, 2, 3), (1, 2, 3)), (('unlike', (0, 1)), ('sum', (0, 1), 4, 4)))
>>> [painted((1, 2), ((1,),), ((1,), ())), mined((1, 2), ((0, 1),)), mined((1, 1), ((0, 0),))]
[(((0, 1), (0, 1)), (('runs', (0, 1), (1,)), ('runs', (0,), (1,)), ('runs', (1,), ()))), (((0,), (0, 1)), (('count', (1,), (1,), 1, 1),)), (((0,),), ())]
>>> roaded((1, 2), (2,), (1, 1))
(((0, 1), (0, 1)), (('count', (0, 1), (1,), 2, 2), ('count', (0,), (1,), 1, 1), ('count', (1,), (1,), 1, 1), ('joined', (0, 1), ((0, 1),), (1,))))
# grids
>>> from toldreasons.grids import lots_shown, mined_by, painted_by, read_lots, read_shown, roaded_by, run_lengths, shown, signed_by, summed_by
>>> [run_lengths((1, 1, 0, 2)), run_lengths(()), painted_by((2, 2), (1, 1, 0, 1)), roaded_by((2, 2), (1, 1, 0, 1)), mined_by((2, 2), (1, 1, 0, 1))]
[(2, 1), (), (((2,), (1,)), ((1,), (2,))), ((2, 1), (1, 2)), ((2, 3),)]
>>> [summed_by(((0, 1), (2,)), (1, 2, 3)), signed_by(2, (1, 2, 2, 1))]
[(((0, 1), 3), ((2,), 3)), ((0, 1), (0, 2), (3, 1), (3, 2))]
>>> [shown((2, 2), (1, None, 12, 0)), read_shown((2, 2), "1 .\n12 0"), read_shown((2, 2), "1 .\n12"), read_shown((1, 1), "01")]
['1 .\n12 0', (1, None, 12, 0), None, None]
>>> [lots_shown((2, 2), ((0, 3), (1,))), read_lots((2, 2), "ab\n.a"), read_lots((2, 2), "ac\n.a"), read_lots((1, 2), "..")]
['ab\n.a', ((0, 3), (1,)), None, ()]
# counting
>>> from toldreasons.counting import answer_of_number, cell_table, count_by, is_one, judge_steps, number_of_answer, only_at, put_together, rule_table, shares_by, steps_of, sure_values, summed_off, widest_lot
>>> PUZZLE = (((1, 2), (1, 2), (1, 2, 3)), (("unlike", (0, 1)), ("below", 1, 2)))
>>> [cell_table(PUZZLE, 0), rule_table(PUZZLE, 1)]
[((0,), (((1,), 1), ((2,), 1))), ((1, 2), (((1, 2), 1), ((1, 3), 1), ((2, 3), 1)))]
>>> BOTH = put_together(rule_table(PUZZLE, 0), rule_table(PUZZLE, 1))
>>> [BOTH, summed_off(BOTH, 1), summed_off(summed_off(BOTH, 2), 0)]
[((0, 1, 2), (((1, 2, 3), 1), ((2, 1, 2), 1), ((2, 1, 3), 1))), ((0, 2), (((1, 3), 1), ((2, 2), 1), ((2, 3), 1))), ((1,), (((1,), 2), ((2,), 1)))]
>>> steps_of(PUZZLE, (0, 2, 1))
((0, (0, 1), ((1,), (((1,), 1), ((2,), 1)))), (2, (1, 2), ((1,), (((1,), 2), ((2,), 1)))), (1, (1,), ((), (((), 3),))))
>>> [count_by(PUZZLE, (0, 2, 1)), count_by(PUZZLE, (1, 0, 2)), widest_lot(PUZZLE, (0, 2, 1)), widest_lot(PUZZLE, (1, 0, 2))]
[3, 3, 2, 3]
>>> [[answer_of_number(PUZZLE, (0, 1, 2), number) for number in range(4)], number_of_answer(PUZZLE, (2, 1, 0), (2, 1, 3)), number_of_answer(PUZZLE, (2, 1, 0), (1, 1, 2))]
[[(1, 2, 3), (2, 1, 2), (2, 1, 3), None], 2, None]
>>> [shares_by(PUZZLE, (0, 1, 2))[2], sure_values(only_at(PUZZLE, 0, [1]), (0, 1, 2)), is_one(PUZZLE, (0, 1, 2)), only_at(PUZZLE, 2, [3, 9])[0]]
[((1, 0), (2, 1), (3, 2)), ((0, 1), (1, 2), (2, 3)), False, ((1, 2), (1, 2), (3,))]
>>> [judge_steps(PUZZLE, (0, 2, 1), steps_of(PUZZLE, (0, 2, 1))), judge_steps(PUZZLE, (0, 2, 1), ()), judge_steps(PUZZLE, (0, 2, 1), steps_of(PUZZLE, (0, 2, 1))[:2] + ((1, (1,), ((), (((), 4),))),))]
[None, ('form',), ('step', 2)]
# marks
>>> from toldreasons.marks import answers_left, cut_puzzle, done, easiest, hinted, is_deed, is_finished, is_right, led_by_hints, new_board, progress, redone, stuck, tale, undone, why_struck, wrong_marks
>>> PUZZLE = (((1, 2), (1, 2), (2,)), (("unlike", (0, 1)), ("below", 1, 2)))
>>> first = new_board(PUZZLE)
>>> [first["marks"], answers_left(first), progress(first), easiest(first), is_deed(first, ("strike", 0, 1)), is_deed(first, ("raise", 0, 1))]
[((1, 2), (1, 2), (2,)), [(2, 1, 2)], (5, 1, 0), (0, 1), True, False]
>>> late = done(first, ("strike", 0, 2))
>>> [late["marks"], wrong_marks(late), is_right(late), answers_left(late), undone(late)["back"], redone(undone(late)) == late]
[((1,), (1, 2), (2,)), ((0, 2),), False, [], (('strike', 0, 2),), True]
>>> told = led_by_hints(first, 1)
>>> [told["marks"], told["log"], is_finished(told), stuck(told, 1), tale(told)]
[((2,), (1,), (2,)), (('strike', 1, 2), ('strike', 0, 1)), True, False, [(('strike', 1, 2), 1), (('strike', 0, 1), 1)]]
>>> [why_struck(first, 1, 2, 2)[0], why_struck(first, 1, 1, 2), hinted(told, 1) == told, cut_puzzle(told)[0]]
[1, None, True, ((2,), (1,), (2,))]
# deeds
>>> from toldreasons.deeds import deed_text, log_text, read_deed, read_log
>>> [deed_text(("set", 5, 12)), read_deed("strike 0 2"), log_text((("strike", 0, 2), ("raise", 0, 2))), read_log("set 1 1\nstrike 0 3"), log_text(()), read_log("")]
['set 5 12', ('strike', 0, 2), 'strike 0 2\nraise 0 2', (('set', 1, 1), ('strike', 0, 3)), '', ()]
>>> read_deed("strive 0 2")
raises BadText(4)
# house
>>> from toldreasons.house import House
>>> PUZZLE = (((1, 2), (1, 2), (1, 2, 3)), (("unlike", (0, 1, 2)), ("below", 0, 1)))
>>> house = House(PUZZLE)
>>> [house.left(), house.set_part(), house.do(("strike", 0, 1)), house.wrong(), house.finished(), house.undo(), house.redo(), house.undo(), house.progress()]
[1, (), 1, ((0, 1),), False, 0, 1, 0, (7, 0, 0)]
>>> [house.lead(2) == len(house.deeds()), house.finished(), house.set_part(), house.standing(), house.wrong(), house.easiest()]
[True, True, ((0, 1), (1, 2), (2, 3)), ((1,), (2,), (3,)), (), ()]
# desk
>>> from toldreasons.desk import Desk
>>> desk = Desk(PUZZLE, 2)
>>> [desk.say("grid"), desk.say("set 0 2"), desk.say("grid"), desk.say("wrong"), desk.say("left"), desk.say("undo"), desk.say("undo"), desk.say("redo")]
['. .\n.', '1', '2 .\n.', '0 1', '0', '0', 'refused', '1']
>>> [desk.say("marks").split("\n"), desk.say("strike 0 2"), desk.say("strike 0 1"), desk.say("easiest"), desk.say("log"), desk.say("puzzle").split("\n")[3], desk.say(None)]
[['0: 2', '1: 1 2', '2: 1 2 3'], '2', 'what', '1', 'set 0 2\nstrike 0 2', 'unlike 0 1 2', 'what']
'''


def shown(statement, names):
    """What a statement shows, None if it is no expression."""
    try:
        code = compile(statement, "example", "eval")
    except SyntaxError:
        exec(statement, names)
        return None
    try:
        return repr(eval(code, names))
    except ValueError as error:
        told = ", ".join(repr(value) for value in vars(error).values())
        return f"raises {type(error).__name__}({told})"


class ExamplesTest(unittest.TestCase):
    def test_examples(self):
        names = {}
        many = 0
        for example in re.split(r"^>>> ", EXAMPLES, flags=re.MULTILINE)[1:]:
            statement, *rows = example.rstrip("\n").split("\n")
            expected = [row for row in rows if not row.startswith("# ")]
            found = shown(statement, names)
            if expected:
                many += 1
                self.assertEqual([found], expected, statement)
        self.assertEqual(many, 101)


if __name__ == "__main__":
    unittest.main()
