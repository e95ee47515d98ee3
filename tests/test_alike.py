"""Plain forms, leadings, and puzzles that are alike: [10.1] to [10.4]."""

import random
import unittest

import made
import oracle_alike
from toldreasons.alike import (
    all_values, find_leading, judge_leading, led, led_after, led_answer, led_back, led_part, plain, standing,
)
from toldreasons.answers import answers
from toldreasons.books import greatest_book
from toldreasons.puzzles import fillings, is_puzzle
from toldreasons.reasons import part_rounds
from toldreasons.strength import least_clash, least_solving, struck_by

THREE = (0, 1, 2)


def made_leading(dice, puzzle, most=99):
    """Any leading of a puzzle."""
    n, values = len(puzzle[0]), oracle_alike.values_of(puzzle)
    others = dice.sample(range(most + 1), len(values))
    return (tuple(dice.sample(range(n), n)), tuple(zip(values, others)))


def some_puzzles(seed, many, **bounds):
    return made.made_puzzles(seed, many, most_cells=4, empty=0.08, **bounds) + list(made.PUZZLES)


class PlainTest(unittest.TestCase):
    def test_each_kind_of_rule(self):
        domains = (THREE, THREE, THREE, (0, 1))
        for rule, table in (
            (("table", (2, 0), ((0, 1), (1, 2), (2, 0), (7, 7))), ("table", (0, 2), ((0, 2), (1, 0), (2, 1)))),
            (("unlike", (3, 1)), ("table", (1, 3), ((0, 1), (1, 0), (2, 0), (2, 1)))),
            (("sum", (3, 0), 2, 2), ("table", (0, 3), ((1, 1), (2, 0)))),
            (("count", (3, 2), (2, 9), 1, 2), ("table", (2, 3), ((2, 0), (2, 1)))),
            (("below", 3, 0), ("table", (0, 3), ((1, 0), (2, 0), (2, 1)))),
            (("below", 0, 3), ("table", (0, 3), ((0, 1),))),
            (("runs", (3, 1, 0), (1, 1)), ("table", (0, 1, 3), ((1, 0, 1), (2, 0, 1)))),
            (("joined", (3, 1, 0), ((1, 3),), (1,)), None),
        ):
            found = plain((domains, (rule,)))
            self.assertEqual(found[0], domains)
            if table is not None:
                self.assertEqual(found[1], (table,))
            self.assertEqual(found, oracle_alike.plain((domains, (rule,))))

    def test_joined_row_by_row(self):
        rule = ("joined", (2, 0, 1), ((0, 1), (1, 2)), (1,))
        rows = ((0, 0, 0), (0, 0, 1), (0, 1, 0), (0, 1, 1), (1, 0, 0), (1, 1, 0), (1, 1, 1))
        self.assertEqual(plain((((0, 1),) * 3, (rule,)))[1], (("table", (0, 1, 2), rows),))

    def test_a_rule_without_fillings_and_empty_domains(self):
        self.assertEqual(plain((((1,), (1,)), (("unlike", (1, 0)),))), (((1,), (1,)), (("table", (0, 1), ()),)))
        self.assertEqual(plain((((), (3,)), (("sum", (1, 0), 0, 9), ("count", (1,), (), 0, 0)))),
                         (((), (3,)), (("table", (0, 1), ()), ("table", (1,), ((3,),)))))
        self.assertEqual(plain((((),), ())), (((),), ()))

    def test_equal_tables_stand_once_and_tables_ascend(self):
        domains = ((1, 2), (1, 2), (1, 2))
        rules = (("unlike", (2, 1)), ("unlike", (1, 0)), ("sum", (0, 1), 3, 3), ("table", (1, 0), ((1, 2), (2, 1))), ("below", 0, 1))
        self.assertEqual(plain((domains, rules))[1], (
            ("table", (0, 1), ((1, 2),)), ("table", (0, 1), ((1, 2), (2, 1))), ("table", (1, 2), ((1, 2), (2, 1))),
        ))

    def test_it_is_a_puzzle_of_the_same_answers_and_fillings(self):
        for puzzle in some_puzzles(101, 120):
            flat = plain(puzzle)
            self.assertEqual(flat, oracle_alike.plain(puzzle))
            self.assertTrue(is_puzzle(flat))
            self.assertEqual(plain(flat), flat)
            self.assertEqual(answers(flat), answers(puzzle))
            own = {fillings(puzzle, ("rule", j)) for j in range(len(puzzle[1])) if fillings(puzzle, ("rule", j))}
            self.assertLessEqual(own, {fillings(flat, ("rule", j)) for j in range(len(flat[1]))})
            for k in (1, 2):
                self.assertEqual(part_rounds(flat, k), part_rounds(puzzle, k))


class LeadingTest(unittest.TestCase):
    def test_all_values(self):
        self.assertEqual(all_values((((), ()), ())), ())
        self.assertEqual(all_values((((5, 9), (), (0, 5, 99)), ())), (0, 5, 9, 99))
        for puzzle in some_puzzles(102, 30):
            self.assertEqual(list(all_values(puzzle)), oracle_alike.values_of(puzzle))

    def test_parts_and_answers(self):
        leading = ((2, 0, 1), ((1, 50), (2, 0), (7, 1)))
        self.assertEqual(led_part(leading, ()), ())
        self.assertEqual(led_part(leading, ((0, 2), (1, 7))), ((0, 1), (2, 0)))
        self.assertEqual(led_part(leading, ((0, 1), (1, 1), (2, 1))), ((0, 50), (1, 50), (2, 50)))
        self.assertEqual(led_answer(leading, (1, 2, 7)), (0, 1, 50))
        self.assertEqual(led_answer(((0,), ()), ()), ())

    def test_led(self):
        dice = random.Random(103)
        for puzzle in some_puzzles(103, 80):
            leading = made_leading(dice, puzzle)
            self.assertEqual(led(puzzle, leading), oracle_alike.led(puzzle, leading))
            self.assertTrue(is_puzzle(led(puzzle, leading)))
            self.assertEqual(led(puzzle, standing(puzzle)), plain(puzzle))

    def test_one_behind_another_and_back(self):
        dice = random.Random(104)
        for puzzle in some_puzzles(104, 80):
            one = made_leading(dice, puzzle)
            came = led(puzzle, one)
            late = made_leading(dice, came)
            self.assertEqual(led(came, late), led(puzzle, led_after(one, late)))
            self.assertEqual(led(came, led_back(one)), plain(puzzle))
            self.assertEqual(led_after(one, led_back(one)), standing(puzzle))
            self.assertEqual(led_after(led_back(one), one), standing(came))
            self.assertEqual(led_back(led_back(one)), one)
            for answer in answers(puzzle):
                self.assertEqual(led_answer(late, led_answer(one, answer)), led_answer(led_after(one, late), answer))

    def test_standing(self):
        self.assertEqual(standing((((4, 9), (), (0, 4)), ())), ((0, 1, 2), ((0, 0), (4, 4), (9, 9))))
        self.assertEqual(standing((((),), ())), ((0,), ()))

    def test_back_is_ascending(self):
        self.assertEqual(led_back(((1, 2, 0), ((0, 9), (1, 3), (8, 0)))), ((2, 0, 1), ((0, 8), (3, 1), (9, 0))))


class LedAlongTest(unittest.TestCase):
    def test_answers_rounds_books_and_strengths(self):
        dice = random.Random(105)
        for puzzle in some_puzzles(105, 40, most_rules=3):
            leading = made_leading(dice, puzzle)
            came = led(puzzle, leading)
            self.assertEqual(answers(came), tuple(sorted(led_answer(leading, answer) for answer in answers(puzzle))))
            for k in (1, 2):
                rounds = sorted((led_part(leading, part), many) for part, many in part_rounds(puzzle, k))
                self.assertEqual(part_rounds(came, k), tuple(rounds))
                book = sorted(led_part(leading, part) for part in greatest_book(puzzle, k))
                self.assertEqual(greatest_book(came, k), tuple(book))
                struck = sorted(led_part(leading, (pair,))[0] for pair in struck_by(puzzle, k))
                self.assertEqual(struck_by(came, k), tuple(struck))
            self.assertEqual(least_clash(came), least_clash(puzzle))
            self.assertEqual(least_solving(came), least_solving(puzzle))


class AlikeTest(unittest.TestCase):
    def check(self, one, other):
        right = oracle_alike.leadings_between(one, other)
        found = find_leading(one, other)
        if not right:
            self.assertIsNone(found, (one, other))
        else:
            self.assertIn(found, right)
            self.assertIsNone(judge_leading(one, other, found))
        return right

    def test_found_and_judged(self):
        dice = random.Random(106)
        many = 0
        for puzzle in some_puzzles(106, 60, most_values=2):
            came = led(puzzle, made_leading(dice, puzzle))
            for right in self.check(puzzle, came):
                self.assertIsNone(judge_leading(puzzle, came, right))
                many += 1
            self.assertNotEqual(self.check(came, puzzle), [])
        self.assertGreater(many, 100)

    def test_not_alike(self):
        domains = ((1, 2), (1, 2), (1, 2))
        pairs = [
            ((((1, 2),), ()), (((1, 2), (1, 2)), ())),
            ((((1, 2),), ()), (((1, 2, 3),), ())),
            ((((1, 2), (1, 2)), ()), (((1, 2), (1, 3)), ())),
            ((domains, (("unlike", (0, 1)),)), (domains, (("unlike", (0, 1)), ("unlike", (1, 2))))),
            ((domains, (("unlike", (0, 1)),)), (domains, (("below", 0, 1),))),
            ((domains, (("sum", (0, 1), 3, 3),)), (domains, (("sum", (0, 1), 2, 2), ("sum", (0, 1), 4, 4)))),
            ((domains, (("below", 0, 1), ("below", 1, 2))), (domains, (("below", 0, 1), ("below", 2, 1)))),
            ((domains, ()), (domains, (("unlike", (0, 1)),))),
        ]
        for one, other in pairs:
            self.assertEqual(self.check(one, other), [], (one, other))
            self.assertEqual(self.check(other, one), [])

    def test_alike_though_they_look_otherwise(self):
        domains = ((1, 2), (1, 2), (1, 2))
        one = (domains, (("below", 0, 1), ("unlike", (0, 1)), ("sum", (2, 0), 3, 3)))
        other = (((0, 7), (0, 7), (0, 7)), (("sum", (0, 1), 7, 7), ("sum", (1, 2), 7, 7), ("below", 2, 1)))
        self.assertEqual(self.check(one, other), [((1, 2, 0), ((1, 7), (2, 0)))])
        self.assertEqual(self.check((((),), ()), (((),), (("unlike", (0,)),))), [])
        self.assertEqual(self.check((((), ()), ()), (((), ()), ())), [((0, 1), ()), ((1, 0), ())])

    def test_any_pair_of_puzzles(self):
        puzzles = made.made_puzzles(107, 40, most_cells=3, most_values=2, most_rules=2)
        for one in puzzles:
            for other in puzzles[:12]:
                self.check(one, other)


FORM = ("form",)


class JudgeTest(unittest.TestCase):
    ONE = (((1, 2), (1, 2), (1, 2, 3)), (("unlike", (0, 1, 2)), ("below", 0, 1)))

    def test_form(self):
        right = standing(self.ONE)
        for value in made.STRANGE + made.DEEP:
            self.assertEqual(judge_leading(self.ONE, self.ONE, value), FORM, value)
        cells, values = right
        for wrong in (
            (cells,), right + (cells,), list(right), (list(cells), values), (cells, list(values)), ((0, 1), values),
            ((0, 1, 1), values), ((0, 1, 3), values), ((0, 1, -1), values), ((0, True, 2), values), ((False, 1, 2), values),
            ((0, 1, 2, 3), values), (cells, values[:2]), (cells, values[1:]), (cells, ((2, 2), (1, 1), (3, 3))),
            (cells, ((1, 1), (2, 2), (3, 2))), (cells, ((1, 1), (2, 2), (3, 100))), (cells, ((1, 1), (2, 2), (3, -1))),
            (cells, ((True, 1), (2, 2), (3, 3))), (cells, ((1, True), (2, 2), (3, 3))), (cells, ((1, 1), (2, 2), [3, 3])),
            (cells, ((1, 1), (2, 2), (3,))), (cells, ((1, 1), (2, 2), (3, 3, 3))), (cells, values + ((4, 4),)),
            (cells, ((1, 1), (2, 2), (4, 3))), (cells, ((1, 1), (1, 2), (2, 3))), (cells, ((1, 1), (2, 2), (3, "3"))),
            (cells, ((1, 1), (2, 2), (3, (3,)))), (cells, ((1, 1), (2, 2), (3, [3]))), (("0", 1, 2), values),
        ):
            self.assertEqual(judge_leading(self.ONE, self.ONE, wrong), FORM, wrong)

    def test_each_small_change_is_judged_as_the_words_say(self):
        dice = random.Random(108)
        for puzzle in made.made_puzzles(108, 15, most_cells=3):
            other = led(puzzle, made_leading(dice, puzzle))
            right = oracle_alike.leadings_between(puzzle, other)
            rights = {repr(leading) for leading in right}
            targets = sorted({*oracle_alike.values_of(other), *(v + 1 for v in oracle_alike.values_of(other)), 0, 1})
            leadings = {repr(leading) for leading in oracle_alike.all_leadings(puzzle, targets)}
            for value in made.changed(find_leading(puzzle, other)):
                found = judge_leading(puzzle, other, value)
                self.assertEqual(found is None, repr(value) in rights, value)
                if repr(value) in leadings:
                    self.assertNotEqual(found, FORM, value)
                elif "100" in repr(value) or "-1" in repr(value) or "True" in repr(value) or "[" in repr(value):
                    self.assertEqual(found, FORM, value)

    def test_cells_domain_and_table(self):
        self.assertEqual(judge_leading(self.ONE, (((1, 2), (1, 2)), ()), standing(self.ONE)), ("cells",))
        self.assertEqual(judge_leading(self.ONE, (self.ONE[0] + ((),), ()), standing(self.ONE)), ("cells",))
        still = ((1, 1), (2, 2), (3, 3))
        self.assertEqual(judge_leading(self.ONE, self.ONE, ((0, 2, 1), still)), ("domain", 1))
        self.assertEqual(judge_leading(self.ONE, self.ONE, ((2, 1, 0), still)), ("domain", 0))
        self.assertEqual(judge_leading(self.ONE, self.ONE, ((0, 1, 2), ((1, 1), (2, 2), (3, 4)))), ("domain", 2))
        self.assertEqual(judge_leading(self.ONE, self.ONE, ((1, 0, 2), still)), ("table", (0, 1)))

    def test_all_leadings_of_pairs_of_puzzles(self):
        words = {}
        puzzles = made.made_puzzles(109, 24, most_cells=3, most_values=2, empty=0)
        for one in puzzles:
            for other in puzzles[:8] + [plain(one)]:
                targets = oracle_alike.values_of(other)
                for leading in oracle_alike.all_leadings(one, targets):
                    fault = judge_leading(one, other, leading)
                    self.assertEqual(fault, oracle_alike.fault_of(one, other, leading), (one, other, leading))
                    words[fault and fault[0]] = words.get(fault and fault[0], 0) + 1
        self.assertEqual(set(words), {None, "cells", "domain", "table"})
        self.assertGreater(min(words.values()), 20)

    def test_tables_of_the_other_one_come_first(self):
        domains = ((1, 2),) * 4
        stand = standing((domains, ()))
        one = (domains, (("unlike", (0, 1)), ("unlike", (1, 2))))
        other = (domains, (("unlike", (1, 2)), ("below", 2, 3), ("unlike", (2, 3))))
        self.assertEqual(judge_leading(one, other, stand), ("table", (2, 3)))
        self.assertEqual(judge_leading(one, (domains, (("unlike", (2, 1)),)), stand), ("table", (0, 1)))
        self.assertEqual(judge_leading(one, (domains, ()), ((1, 2, 3, 0), stand[1])), ("table", (1, 2)))
        self.assertEqual(judge_leading((domains, ()), one, stand), ("table", (0, 1)))
        self.assertIsNone(judge_leading(one, (domains, one[1] + one[1]), stand))

    def test_puzzles_of_sixteen_cells(self):
        domains = ((0, 1),) * 16
        one = (domains, tuple(("below", c, c + 1) for c in range(15)))
        other = (domains, tuple(("below", c + 1, c) for c in range(15)))
        back = tuple(range(15, -1, -1))
        self.assertIsNone(judge_leading(one, other, (back, ((0, 0), (1, 1)))))
        self.assertIsNone(judge_leading(one, other, (tuple(range(16)), ((0, 1), (1, 0)))))
        self.assertEqual(judge_leading(one, other, standing(one)), ("table", (0, 1)))
        self.assertEqual(led(one, (back, ((0, 0), (1, 1)))), plain(other))


if __name__ == "__main__":
    unittest.main()
