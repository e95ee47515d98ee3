"""What the document says FOR ALL puzzles, asked of some puzzles of each kind: of each rule, and of each kind on grids."""

import random
import unittest
from itertools import combinations, permutations

import made
from test_alike import made_leading
from test_marks import played
from toldreasons import (
    alike, answers, books, counting, deeds, game, grids, hardness, judging, kinds, leaving, live, maker, marks, puzzles, reasons,
    strength, symmetry, texts, trees, widths,
)

WORDS = ("table", "unlike", "sum", "count", "below", "runs", "joined")


def of_each_rule():
    """Two puzzles of each kind of rule, with two rules of it."""
    dice = random.Random(901)
    for word in WORDS:
        for n, domain in ((3, (0, 1, 2)), (4, (0, 1))):
            domains = (domain,) * n
            yield (domains, tuple(made.made_rule(dice, domains, word) for _ in range(2)))


ON_GRIDS = (
    kinds.squares(2), kinds.boxed(1, 2), kinds.signed(2, ((0, 1),)), kinds.summed((1, 3), 3, (((0, 1), 4), ((1, 2), 5))),
    kinds.summed((2, 2), 2, (((0, 3), 3),)), kinds.painted((2, 2), ((1,), (1,)), ((1,), (1,))), kinds.painted((1, 4), ((1, 1),), ((1,), (), (), (1,))),
    kinds.mined((2, 2), ((0, 2),)), kinds.mined((1, 4), ((1, 1), (3, 0))), kinds.roaded((2, 2), (1, 2), (2, 1)), kinds.roaded((1, 3), (2,), (1, 0, 1)),
)
BARE = (((), (1, 2)), (("unlike", (0, 1)),)), (((3,),), ()), (((1, 2), (1, 2)), ())
ALL = tuple(of_each_rule()) + ON_GRIDS + BARE + (made.PAIR, made.TRIO, made.FREE, made.TOLD)


def pairs_of(puzzle):
    return [(c, value) for c, domain in enumerate(puzzle[0]) for value in domain]


class ReasonsTest(unittest.TestCase):
    def test_there_are_both_kinds(self):
        many = [len(answers.answers(puzzle)) for puzzle in ALL]
        self.assertLessEqual({0, 1, 2}, set(many))
        self.assertTrue(all(puzzles.is_puzzle(puzzle) for puzzle in ALL))
        self.assertEqual({rule[0] for puzzle in ALL for rule in puzzle[1]}, set(WORDS))

    def test_a_clash_or_a_book(self):
        for puzzle in ALL:
            for k in (1, 2, 3):
                book = books.greatest_book(puzzle, k)
                self.assertIsNone(books.judge_book(puzzle, k, book))
                self.assertNotEqual(reasons.clashes(puzzle, k), () in book)
                rounds = dict(reasons.part_rounds(puzzle, k))
                self.assertEqual(len(rounds), len(reasons.part_rounds(puzzle, k)))
                self.assertEqual(sorted([*rounds, *book]), list(reasons.all_parts(puzzle, k)))
                own = books.book_of(puzzle, k, list(answers.answers(puzzle)))
                self.assertIsNone(books.judge_book(puzzle, k, own))
                self.assertTrue(set(own) <= set(book))

    def test_chains_and_their_rounds(self):
        for puzzle in ALL:
            for k in (1, 2):
                for part, many in reasons.part_rounds(puzzle, k)[:20]:
                    chain = reasons.chain_for(puzzle, k, part)
                    self.assertIsNone(reasons.judge_chain(puzzle, k, chain))
                    self.assertEqual((chain[-1][0], reasons.chain_rounds(chain), reasons.needed_steps(chain)), (part, many, chain))
                    self.assertEqual(answers.answers_with(puzzle, part), ())

    def test_answers_are_read_off(self):
        for puzzle in ALL:
            for k in (1, 2, 3):
                off = [reasons.read_off(puzzle, k, c) for c in range(len(puzzle[0]))]
                for answer in answers.answers(puzzle):
                    self.assertTrue(all(value in off[c] for c, value in enumerate(answer)))
            self.assertEqual(reasons.clashes(puzzle, len(puzzle[0])), answers.answers(puzzle) == ())

    def test_the_game(self):
        dice = random.Random(902)
        for puzzle in ALL:
            for k in (1, 2):
                rounds = dict(reasons.part_rounds(puzzle, k))
                for position in made.some(reasons.all_parts(puzzle, k), 8, dice):
                    if position in rounds:
                        self.assertEqual(game.winner(puzzle, k, position), ("asker", rounds[position]))
                        stand = game.longest_stand(puzzle, k, position)
                        self.assertEqual(len(stand), rounds[position])
                        for _ in range(3):
                            lost = game.asked_out(puzzle, k, position, [dice.randrange(5) for _ in range(4)])
                            self.assertLessEqual(len(lost), rounds[position])
                            self.assertEqual((lost[-1][1], game.judge_game(puzzle, k, position, lost)), (None, None))
                    else:
                        self.assertEqual(game.winner(puzzle, k, position), ("answerer",))
                        played_on = game.answered_out(puzzle, k, position, [(dice.randrange(9), dice.randrange(9)) for _ in range(6)])
                        self.assertEqual((len(played_on), game.judge_game(puzzle, k, position, played_on)), (6, None))

    def test_trees_texts_and_cuts(self):
        for puzzle in ALL:
            tree = trees.tree_of(puzzle)
            self.assertIsNone(trees.judge_tree(puzzle, tree))
            self.assertEqual(trees.told_answers(puzzle, tree), answers.answers(puzzle))
            self.assertEqual(texts.read_puzzle(texts.puzzle_text(puzzle)), puzzle)
            for pair in pairs_of(puzzle):
                self.assertEqual(answers.answers(puzzles.cut_to(puzzle, (pair,))), answers.answers_with(puzzle, (pair,)))


class StrengthTest(unittest.TestCase):
    def test_strengths_rise(self):
        for puzzle in ALL:
            for k in (1, 2):
                less, more = dict(reasons.part_rounds(puzzle, k)), dict(reasons.part_rounds(puzzle, k + 1))
                self.assertTrue(all(more.get(part, 10 ** 9) <= many for part, many in less.items()))
                self.assertTrue(set(strength.struck_by(puzzle, k)) <= set(strength.struck_by(puzzle, k + 1)))
                if strength.verdict(puzzle, k)[0] != "open":
                    self.assertEqual(strength.verdict(puzzle, k + 1), strength.verdict(puzzle, k))
            most = strength.verdict(puzzle, len(puzzle[0]))[0]
            self.assertEqual(most, {0: "clash", 1: "solved"}.get(len(answers.answers(puzzle)), "open"))

    def test_papers_from_both_sides(self):
        for puzzle in ALL:
            paper = strength.strength_paper(puzzle)
            self.assertIsNone(strength.judge_strength(puzzle, paper))
            self.assertEqual(paper[0], {0: "clash", 1: "solved"}.get(len(answers.answers(puzzle)), "several"))
            if paper[0] != "several":
                chain = paper[2 if paper[0] == "clash" else 3]
                self.assertTrue(chain == () or reasons.strength_in(chain) <= paper[1])

    def test_hardness(self):
        for puzzle in ALL:
            found = hardness.hardness(puzzle)
            self.assertEqual(found is None, strength.least_solving(puzzle) is None)
            self.assertEqual(found is None, len(answers.answers(puzzle)) != 1)


class WidthsTest(unittest.TestCase):
    def test_lots_or_an_order(self):
        for puzzle in ALL:
            ties = widths.neighbours(puzzle)
            everything = tuple(range(len(ties)))
            least = min(widths.width_of(ties, order) for order in permutations(everything))
            for w in range(1, len(ties) + 2):
                lots = widths.lots_within(ties, w)
                self.assertEqual(everything in lots, least < w)
                self.assertEqual(widths.judge_lots(ties, w, lots) is None, least >= w)
            self.assertIsNone(widths.judge_width(ties, widths.width_paper(ties)))

    def test_runaways(self):
        for puzzle in ALL:
            ties = widths.neighbours(puzzle)
            for w in range(1, 5):
                runaway = widths.runaway(ties, w)
                self.assertEqual(runaway != (), widths.least_width(ties)[0] >= w)
                if runaway:
                    self.assertIsNone(widths.judge_runaway(ties, w, runaway))

    def test_no_going_back(self):
        for puzzle in ALL:
            ties = widths.neighbours(puzzle)
            found = answers.answers(puzzle)
            width, order = widths.least_width(ties)
            k = width + 1
            self.assertEqual(reasons.clashes(puzzle, k), found == ())
            struck = tuple(pair for pair in pairs_of(puzzle) if all(answer[pair[0]] != pair[1] for answer in found))
            self.assertEqual(strength.struck_by(puzzle, k), struck)
            along = widths.along(puzzle, order, k)
            self.assertEqual(along in found, found != ())


class LiveTest(unittest.TestCase):
    def test_live_values_and_papers(self):
        for domains, rules in ALL:
            for rule in rules:
                plain = live.live_plain(domains, rule)
                self.assertEqual(live.live_values(domains, rule), plain)
                for cell in puzzles.asked_cells((domains, rules), ("rule", rules.index(rule))):
                    for value in domains[cell]:
                        paper = live.live_paper(domains, rule, cell, value)
                        self.assertEqual(paper[0], "live" if (cell, value) in plain else "dead")
                        self.assertIsNone(judging.judge_live(domains, rule, cell, value, paper))
                        row = live.row_with(domains, rule, cell, value)
                        self.assertEqual(row is None, paper[0] == "dead")

    def test_the_order_of_leaving_out_makes_no_difference(self):
        dice = random.Random(903)
        for puzzle in ALL:
            kept = leaving.live_domains(puzzle)
            self.assertIsNone(leaving.judge_dead(puzzle, leaving.dead_strikes(puzzle)))
            for _ in range(2):
                domains = puzzle[0]
                while True:
                    dead = [
                        (cell, value) for rule in puzzle[1] for cell, value in pairs_of((domains, ()))
                        if cell in puzzles.asked_cells((domains, (rule,)), ("rule", 0)) and (cell, value) not in live.live_plain(domains, rule)
                    ]
                    if not dead:
                        break
                    cell, value = dice.choice(dead)
                    domains = counting.only_at((domains, ()), cell, [v for v in domains[cell] if v != value])[0]
                self.assertEqual(((),) * len(domains) if () in domains else domains, kept)
            book = books.greatest_book(puzzle, 1)
            self.assertEqual(pairs_of((kept, ())), [pair for pair in pairs_of(puzzle) if (pair,) in book])
            for answer in answers.answers(puzzle):
                self.assertTrue(all(value in kept[c] for c, value in enumerate(answer)))


class MadeTest(unittest.TestCase):
    def answered(self):
        for puzzle in ALL:
            for answer in answers.answers(puzzle)[:2]:
                yield puzzle, answer

    def test_greater_clues(self):
        for puzzle, answer in self.answered():
            n = len(answer)
            goals = [("one",)] + [("strength", k) for k in range(1, n + 1)]
            lots = [lot for size in range(n + 1) for lot in combinations(range(n), size)]
            reached = {(lot, goal): maker.reaches(puzzle, puzzles.part_of(answer, lot), goal) for lot in lots for goal in goals}
            for lot in lots:
                for goal in goals:
                    if reached[lot, goal]:
                        self.assertTrue(all(reached[other, goal] for other in lots if set(lot) < set(other)))
                        self.assertTrue(reached[lot, goals[0]])
                for k in range(1, n):
                    self.assertLessEqual(reached[lot, goals[k]], reached[lot, goals[k + 1]])
                self.assertEqual(reached[lot, goals[n]], reached[lot, goals[0]])

    def test_lots_of_difference(self):
        for puzzle, answer in self.answered():
            lots = maker.difference_lots(puzzle, answer)
            for size in range(len(answer) + 1):
                for cells in combinations(range(len(answer)), size):
                    hit = all(set(lot) & set(cells) for lot in lots)
                    self.assertEqual(maker.reaches(puzzle, puzzles.part_of(answer, cells), ("one",)), hit)

    def test_least_clues_are_all_made_ones(self):
        for puzzle, answer in self.answered():
            for goal in (("one",), ("strength", 1)):
                every = maker.made_all(puzzle, answer, goal)
                orders = permutations(range(len(answer)))
                self.assertEqual({maker.least_clues(puzzle, answer, order, goal) for order in orders}, set(every))
                sure = maker.sure_clues(puzzle, answer, goal)
                self.assertTrue(all(cell in dict(clues) for clues in every for cell in sure))
                for clues in every:
                    self.assertIsNone(maker.judge_least(puzzle, answer, goal, clues))


class AlikeTest(unittest.TestCase):
    def test_led_along(self):
        dice = random.Random(904)
        for puzzle in ALL:
            leading = made_leading(dice, puzzle)
            came = alike.led(puzzle, leading)
            late = made_leading(dice, came)
            self.assertEqual(answers.answers(came), tuple(sorted(alike.led_answer(leading, a) for a in answers.answers(puzzle))))
            for k in (1, 2):
                led = tuple(sorted((alike.led_part(leading, part), many) for part, many in reasons.part_rounds(puzzle, k)))
                self.assertEqual(reasons.part_rounds(came, k), led)
                self.assertEqual(reasons.part_rounds(alike.plain(puzzle), k), reasons.part_rounds(puzzle, k))
            self.assertEqual(alike.led(came, late), alike.led(puzzle, alike.led_after(leading, late)))
            self.assertEqual(alike.led(came, alike.led_back(leading)), alike.plain(puzzle))
            self.assertIsNone(alike.judge_leading(puzzle, came, alike.find_leading(puzzle, came)))

    def test_least_forms(self):
        forms = [symmetry.least_form(puzzle) for puzzle in ALL]
        for one, form in zip(ALL, forms):
            own = symmetry.own_leadings(one)
            self.assertIn(alike.standing(one), own)
            self.assertEqual(symmetry.standing_pairs(one), len(symmetry.unlike_answers(one)) * len(own))
            self.assertEqual(symmetry.standing_pairs(one), len([0 for leading in own for a in answers.answers(one) if alike.led_answer(leading, a) == a]))
            for other, late in zip(ALL, forms):
                self.assertEqual(form == late, alike.find_leading(one, other) is not None)

    def test_turns(self):
        for size in (2, 3):
            self.assertEqual(len(symmetry.own_turns(kinds.squares(size), size, size)), 8)
        for puzzle in (kinds.roaded((2, 3), (2, 3), (2, 2, 1)), kinds.mined((2, 3), ((1, 2), (5, 0))), kinds.painted((2, 3), ((2,), (1,)), ((1,), (1,), (1,)))):
            for turn in symmetry.own_turns(puzzle, 3, 2):
                self.assertEqual(symmetry.turned(puzzle, 3, 2, turn), alike.plain(puzzle))


class GridsTest(unittest.TestCase):
    def test_readers_and_builders(self):
        dice = random.Random(905)
        for grid in ((1, 1), (1, 5), (4, 1), (2, 3), (3, 3), (4, 4)):
            many = grid[0] * grid[1]
            for _ in range(20):
                values = tuple(dice.randrange(2) for _ in range(many))
                self.assertTrue(puzzles.is_answer(kinds.painted(grid, *grids.painted_by(grid, values)), values))
                self.assertTrue(puzzles.is_answer(kinds.mined(grid, grids.mined_by(grid, values)), values))
                road = kinds.roaded(grid, *grids.roaded_by(grid, values))
                self.assertIn(puzzles.first_broken(road, values), (None, ("rule", len(road[1]) - 1)))
                other = tuple(dice.randint(1, 4) for _ in range(many))
                lots = tuple(tuple(dice.sample(range(many), dice.randint(1, min(many, 4)))) for _ in range(3))
                unlike = all(len({other[cell] for cell in lot}) == len(lot) for lot in lots)
                self.assertEqual(puzzles.is_answer(kinds.summed(grid, 4, grids.summed_by(lots, other)), other), unlike)
                self.assertEqual(grids.read_shown(grid, grids.shown(grid, other)), other)

    def test_squares_and_signs(self):
        for size in (1, 2, 3):
            found = answers.answers(kinds.squares(size))
            for values in found:
                puzzle = kinds.signed(size, grids.signed_by(size, values))
                same = [others for others in found if grids.signed_by(size, others) == grids.signed_by(size, values)]
                self.assertEqual([others for others in found if puzzles.is_answer(puzzle, others)], same)


class CountingTest(unittest.TestCase):
    def test_counts_numbers_and_shares(self):
        for puzzle in ALL:
            found = answers.answers(puzzle)
            for order in list(permutations(range(len(puzzle[0]))))[::5]:
                self.assertEqual(counting.count_by(puzzle, order), len(found))
                self.assertEqual([counting.answer_of_number(puzzle, order, number) for number in range(len(found) + 1)], [*found, None])
                self.assertEqual([counting.number_of_answer(puzzle, order, answer) for answer in found], list(range(len(found))))
                self.assertTrue(all(sum(dict(pairs).values()) == len(found) for pairs in counting.shares_by(puzzle, order)))
                self.assertEqual(counting.sure_values(puzzle, order), (answers.common_part(puzzle) or ()) if found else ())
                self.assertEqual(counting.is_one(puzzle, order), len(found) == 1)
                self.assertEqual(counting.widest_lot(puzzle, order), widths.width_of(widths.neighbours(puzzle), order) + 1)
                self.assertIsNone(counting.judge_steps(puzzle, order, counting.steps_of(puzzle, order)))


class BoardsTest(unittest.TestCase):
    def boards(self):
        dice = random.Random(906)
        for puzzle in ALL:
            yield marks.new_board(puzzle)
            yield played(dice, puzzle, 2, ("strike",))
            yield played(dice, puzzle, 3)

    def test_right_boards_and_hints(self):
        for board in self.boards():
            cut = marks.cut_puzzle(board)
            self.assertEqual(marks.is_right(board), marks.answers_left(board) == list(answers.answers(board["puzzle"])))
            for most in (1, 2, 3):
                led = marks.led_by_hints(board, most)
                if marks.is_right(board):
                    self.assertTrue(marks.is_right(marks.hinted(board, most)))
                    self.assertTrue(marks.is_right(led))
                self.assertIsNone(marks.next_hint(led, most))
                self.assertEqual(marks.is_finished(led), strength.verdict(cut, most)[0] == "solved")
                solved = strength.verdict(board["puzzle"], most)
                if solved[0] == "solved":
                    led = marks.led_by_hints(marks.new_board(board["puzzle"]), most)
                    self.assertEqual((marks.is_finished(led), led["marks"]), (True, tuple((value,) for value in solved[1])))

    def test_logs_there_and_back(self):
        for board in self.boards():
            log = board["log"]
            self.assertEqual(deeds.read_log(deeds.log_text(log)), log)
            again = board
            for _ in log:
                again = marks.undone(again)
            self.assertEqual((again["marks"], again["log"]), (board["puzzle"][0], ()))
            for _ in log:
                again = marks.redone(again)
            self.assertEqual(again, {**board, "back": again["back"]})


if __name__ == "__main__":
    unittest.main()
