"""Live values and their papers ([8.1], [8.2])."""

import random
import unittest
from itertools import product

import made
import oracle
import oracle_live
from toldreasons.live import live_paper, live_plain, live_values, row_with

DOMAINS = ((1, 2), (1, 2), (1, 2, 3))
CASES = oracle_live.made_cases(81, 150)
BITS = ((0, 1),) * 5


def told_values(domains, rule):
    return [(c, v) for c in oracle.cells_of(rule) for v in domains[c]]


class LiveValuesTest(unittest.TestCase):
    def assert_live(self, domains, rule, pairs):
        self.assertEqual(live_plain(domains, rule), pairs)
        self.assertEqual(live_values(domains, rule), pairs)

    def test_each_kind_of_rule(self):
        self.assert_live(DOMAINS, ("table", (2, 0), ((1, 2), (3, 4), (9, 1))), ((0, 2), (2, 1)))
        self.assert_live(DOMAINS, ("table", (2, 0), ()), ())
        self.assert_live(DOMAINS, ("unlike", (2, 0, 1)), ((0, 1), (0, 2), (1, 1), (1, 2), (2, 3)))
        self.assert_live(DOMAINS, ("unlike", (1,)), ((1, 1), (1, 2)))
        self.assert_live(((1, 2), (1, 2), (1, 2)), ("unlike", (2, 0, 1)), ())
        self.assert_live(DOMAINS, ("sum", (0, 1), 4, 9), ((0, 2), (1, 2)))
        self.assert_live(DOMAINS, ("sum", (2, 0), 3, 3), ((0, 1), (0, 2), (2, 1), (2, 2)))
        self.assert_live(DOMAINS, ("sum", (1,), 2, 999999999), ((1, 2),))
        self.assert_live(DOMAINS, ("sum", (0, 1), 999999998, 999999999), ())
        self.assert_live(DOMAINS, ("count", (0, 1, 2), (3,), 1, 2), ((0, 1), (0, 2), (1, 1), (1, 2), (2, 3)))
        self.assert_live(DOMAINS, ("count", (1, 0), (1, 9), 0, 0), ((0, 2), (1, 2)))
        self.assert_live(DOMAINS, ("count", (1, 0), (), 0, 5), ((0, 1), (0, 2), (1, 1), (1, 2)))
        self.assert_live(DOMAINS, ("count", (1, 0), (1,), 3, 5), ())
        self.assert_live(DOMAINS, ("below", 2, 0), ((0, 2), (2, 1)))
        self.assert_live(DOMAINS, ("below", 0, 2), ((0, 1), (0, 2), (2, 2), (2, 3)))
        self.assert_live(BITS, ("runs", (0, 1, 2), (2,)), ((0, 0), (0, 1), (1, 1), (2, 0), (2, 1)))
        self.assert_live(BITS, ("runs", (4, 0, 2), (1, 1)), ((0, 0), (2, 1), (4, 1)))
        self.assert_live(BITS, ("runs", (1, 0), ()), ((0, 0), (1, 0)))
        self.assert_live(BITS, ("runs", (1, 0), (3,)), ())
        self.assert_live(((0, 5), (7, 99), (0, 3)), ("runs", (0, 1, 2), (2,)), ((0, 0), (0, 5), (1, 7), (1, 99), (2, 0), (2, 3)))
        joined = ("joined", (0, 1, 2), ((0, 1), (1, 2)), (5,))
        self.assert_live(((5,), (0, 5), (5,)), joined, ((0, 5), (1, 5), (2, 5)))
        self.assert_live(((5,), (0, 5), (0, 5)), joined, ((0, 5), (1, 0), (1, 5), (2, 0), (2, 5)))
        self.assert_live(((0, 5), (0,), (0, 5)), joined, ((0, 0), (0, 5), (1, 0), (2, 0), (2, 5)))
        self.assert_live(((5,), (0,), (0, 5)), joined, ((0, 5), (1, 0), (2, 0)))
        self.assert_live(((5,), (0,), (5,)), joined, ())

    def test_an_empty_domain_leaves_nothing_live(self):
        domains = ((0, 1), (), (0, 1))
        for rule in (("table", (0, 1), ((0, 0),)), ("unlike", (0, 1)), ("sum", (2, 1, 0), 0, 9), ("count", (0, 1), (0, 1), 0, 9),
                     ("below", 0, 1), ("below", 1, 2), ("runs", (1, 0), ()), ("joined", (0, 1, 2), (), ())):
            self.assert_live(domains, rule, ())
        # An empty domain of a cell that the rule does not name does not matter.
        self.assert_live(domains, ("below", 0, 2), ((0, 0), (2, 1)))

    def test_values_repeated_in_other_cells(self):
        self.assert_live(((1,), (1, 2), (1, 2, 3)), ("unlike", (2, 1, 0)), ((0, 1), (1, 2), (2, 3)))
        self.assert_live(((1, 2), (1, 2), (2, 3), (3, 4)), ("unlike", (3, 2, 1, 0)), ((0, 1), (0, 2), (1, 1), (1, 2), (2, 3), (3, 4)))
        self.assert_live(((1, 2), (1, 3), (2, 3)), ("unlike", (0, 1, 2)), ((0, 1), (0, 2), (1, 1), (1, 3), (2, 2), (2, 3)))

    def test_as_the_oracle_tells(self):
        for domains, rule in CASES:
            found = oracle_live.live(domains, rule)
            self.assertEqual(live_plain(domains, rule), found, (domains, rule))
            self.assertEqual(live_values(domains, rule), found, (domains, rule))

    def test_rules_of_puzzles(self):
        for puzzle in made.PUZZLES + tuple(made.made_puzzles(82, 60)):
            for rule in puzzle[1]:
                found = oracle_live.live(puzzle[0], rule)
                self.assertEqual((live_plain(puzzle[0], rule), live_values(puzzle[0], rule)), (found, found))

    def test_many_rows(self):
        nine = ((0, 1),) * 9
        self.assertEqual(live_values(nine, ("runs", tuple(range(9)), (3, 5))),
                         ((0, 1), (1, 1), (2, 1), (3, 0), (4, 1), (5, 1), (6, 1), (7, 1), (8, 1)))
        self.assertEqual(live_values((tuple(range(9)),) * 4, ("sum", (3, 1, 0, 2), 31, 31)),
                         tuple((c, v) for c in range(4) for v in (7, 8)))
        self.assertEqual(live_values((tuple(range(10)),) * 4, ("unlike", (3, 1, 0, 2))),
                         tuple((c, v) for c in range(4) for v in range(10)))
        # Without trying all rows, of which there are far more than can be looked at.
        self.assertEqual(live_values((tuple(range(9)),) * 9, ("sum", tuple(range(9)), 0, 0)), tuple((c, 0) for c in range(9)))
        self.assertEqual(len(live_values((tuple(range(9)),) * 9, ("unlike", tuple(range(9))))), 81)

    def test_row_with(self):
        self.assertEqual(row_with(DOMAINS, ("unlike", (2, 0, 1)), 0, 2), (3, 2, 1))
        self.assertIsNone(row_with(DOMAINS, ("unlike", (2, 0, 1)), 2, 1))
        self.assertIsNone(row_with(DOMAINS, ("unlike", (2, 0, 1)), 2, 9))
        self.assertIsNone(row_with(((1,), ()), ("unlike", (0, 1)), 0, 1))
        for domains, rule in CASES:
            rows = oracle_live.rows(domains, rule)
            for cell, value in told_values(domains, rule):
                at = oracle.cells_of(rule).index(cell)
                found = row_with(domains, rule, cell, value)
                if (cell, value) in oracle_live.live(domains, rule):
                    self.assertIn(found, rows)
                    self.assertEqual(found[at], value)
                else:
                    self.assertIsNone(found)


class LivePaperTest(unittest.TestCase):
    def test_live_and_dead_of_each_kind(self):
        for domains, rule, cell, value, dead in (
            (DOMAINS, ("table", (2, 0), ((1, 2), (3, 4))), 0, 1, ("dead", "rows")),
            (DOMAINS, ("sum", (0, 1), 4, 9), 0, 1, ("dead", "sums", ((0,), (1, 2)))),
            (DOMAINS, ("sum", (2, 1, 0), 0, 4), 1, 2, None),
            (DOMAINS, ("sum", (2, 1, 0), 0, 4), 2, 3, ("dead", "sums", ((0,), (1, 2), (2, 3, 4)))),
            (DOMAINS, ("sum", (1,), 2, 3), 1, 1, ("dead", "sums", ((0,),))),
            (DOMAINS, ("count", (0, 1, 2), (3,), 1, 2), 2, 1, ("dead", "count", 0, 0)),
            (DOMAINS, ("count", (0, 2, 1), (1, 2), 0, 2), 0, 1, None),
            (DOMAINS, ("count", (0, 2, 1), (1, 2), 0, 1), 0, 1, ("dead", "count", 1, 2)),
            (DOMAINS, ("count", (0, 2, 1), (3,), 2, 3), 0, 1, ("dead", "count", 0, 1)),
            (DOMAINS, ("below", 2, 0), 2, 2, ("dead", "below")),
            (DOMAINS, ("below", 2, 0), 0, 1, ("dead", "below")),
            (DOMAINS, ("below", 2, 0), 0, 2, None),
            (BITS, ("runs", (0, 1, 2), (2,)), 1, 0, ("dead", "runs", (((0, 0),), ((0, 0), (0, 1)), ((0, 0),), ((0, 0), (0, 1))))),
            (BITS, ("runs", (0, 1), ()), 1, 1, ("dead", "runs", (((0, 0),), ((0, 0),), ()))),
            (BITS, ("runs", (0, 1), (1,)), 1, 1, None),
            (((5,), (0, 5), (5,)), ("joined", (0, 1, 2), ((0, 1), (1, 2)), (5,)), 1, 0, ("dead", "parted", (0,))),
            (((5,), (0, 5), (5,)), ("joined", (0, 1, 2), ((0, 1), (1, 2)), (5,)), 1, 5, None),
        ):
            paper = live_paper(domains, rule, cell, value)
            if dead is None:
                self.assertEqual(paper[0], "live")
                self.assertEqual(oracle_live.judge_live(domains, rule, cell, value, paper), None)
            else:
                self.assertEqual(paper, dead)

    def test_lots(self):
        paper = live_paper(DOMAINS, ("unlike", (2, 0, 1)), 2, 1)
        self.assertEqual(paper, ("dead", "lot", (0, 1), (2,)))
        self.assertEqual(live_paper(((4,), (4, 5)), ("unlike", (1, 0)), 1, 4), ("dead", "lot", (0,), ()))
        self.assertEqual(live_paper(((1, 2),) * 4, ("unlike", (0, 1, 2, 3)), 3, 1)[:2], ("dead", "lot"))

    def test_rows_as_many_as_told(self):
        kinds = {"sums": 0, "runs": 1}
        for domains, rule in CASES:
            for cell, value in told_values(domains, rule):
                paper = live_paper(domains, rule, cell, value)
                if paper[0] == "dead" and paper[1] in kinds:
                    self.assertEqual(len(paper[2]), len(oracle.cells_of(rule)) + kinds[paper[1]])

    def test_an_empty_domain_goes_ahead(self):
        domains = ((0, 1), (), (), (0, 1))
        for rule, other in ((("table", (0, 2, 1), ()), 2), (("unlike", (1, 0, 2)), 1), (("sum", (2, 0, 1), 9, 9), 2),
                            (("count", (0, 1), (), 3, 3), 1), (("below", 0, 1), 1), (("below", 2, 0), 2),
                            (("runs", (0, 2, 1), (9,)), 2), (("joined", (2, 0, 1), (), (1,)), 2)):
            self.assertEqual(live_paper(domains, rule, 0, 1), ("dead", "empty", other), rule)
        self.assertEqual(live_paper(domains, ("unlike", (0, 3)), 0, 1), ("live", (1, 0)))

    def test_just_one_of_both(self):
        words = {}
        for domains, rule in CASES:
            found = oracle_live.live(domains, rule)
            for cell, value in told_values(domains, rule):
                paper = live_paper(domains, rule, cell, value)
                words[rule[0], paper[0]] = True
                self.assertIsNone(oracle_live.judge_live(domains, rule, cell, value, paper), (domains, rule, cell, value, paper))
                self.assertEqual(paper[0], "live" if (cell, value) in found else "dead")
                empty = [other for other in oracle.cells_of(rule) if domains[other] == ()]
                self.assertEqual(paper[1:], ("empty", empty[0])) if empty else self.assertNotEqual(paper[1], "empty")
        self.assertEqual(set(words), set(product(oracle.WORDS, ("live", "dead"))))

    def test_what_is_live_is_live_with_the_domains_of_others(self):
        dice = random.Random(83)
        for domains, rule in made.some(CASES, 200, dice):
            wider = tuple(tuple(sorted(set(domain) | {dice.randint(0, 3)})) for domain in domains)
            self.assertLessEqual(set(live_values(domains, rule)), set(live_values(wider, rule)))


if __name__ == "__main__":
    unittest.main()
