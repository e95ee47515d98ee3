"""Rules: their bounds ([1.1]), their cells, and what fits them ([1.2])."""

import random
import unittest
from itertools import product

import made
import oracle
from toldreasons.puzzles import is_puzzle, judge_puzzle
from toldreasons.rules import cells_of, fits


def is_rule(rule, n=3):
    return is_puzzle((((0, 1, 2),) * n, (rule,)))


class BoundsTest(unittest.TestCase):
    def assert_rules(self, right, wrong, n=3):
        for rule in right:
            self.assertTrue(is_rule(rule, n), rule)
        for rule in wrong:
            self.assertEqual(judge_puzzle((((0, 1, 2),) * n, (rule,))), ("rule", 0), rule)

    def test_table(self):
        self.assert_rules(
            [("table", (0,), ()), ("table", (2, 0), ((0, 99), (1, 0), (1, 1))), ("table", (1,), ((0,), (99,)))],
            [("table", (0,), ((1,), (0,))), ("table", (0,), ((1,), (1,))), ("table", (0, 1), ((1,),)),
             ("table", (0,), ((1, 2),)), ("table", (0,), ((),)), ("table", (0,), ((100,),)), ("table", (0,), ((-1,),)),
             ("table", (0,), ((True,),)), ("table", (0,), [(1,)]), ("table", (0,), ([1],)), ("table", (), ()),
             ("table", (), ((),)), ("table", (0,)), ("table", (0,), (), ()), ("table", (0,), (1,)), ("table", (0,), None)],
        )

    def test_unlike(self):
        self.assert_rules(
            [("unlike", (0,)), ("unlike", (2, 0, 1))],
            [("unlike", ()), ("unlike", (0, 0)), ("unlike", (0, 3)), ("unlike", (-1, 0)), ("unlike", (True, 0)),
             ("unlike", [0, 1]), ("unlike", 0), ("unlike", (0, 1), ()), ("unlike",), ("unlike", (0, None)),
             ("unlike", ((0,), 1)), ["unlike", (0, 1)], ("Unlike", (0, 1)), ("alike", (0, 1)), (), None, "unlike",
             (("unlike", (0,)),), (["unlike"], (0,)), (None, (0,)), ({}, (0,)), (0, (0,))],
        )

    def test_sum(self):
        self.assert_rules(
            [("sum", (0,), 0, 0), ("sum", (1, 0), 3, 3), ("sum", (1, 0), 0, made.BIG)],
            [("sum", (0,), 1, 0), ("sum", (0,), -1, 0), ("sum", (0,), 0, True), ("sum", (0,), False, 1),
             ("sum", (0,), None, 1), ("sum", (0,), 0), ("sum", (0,), 0, "1"), ("sum", (), 0, 1), ("sum", (0, 0), 0, 1),
             ("sum", (0,), 0, (1,)), ("sum", (0,), 0, 1, 2), ("sum", (True,), 0, 1)],
        )

    def test_count(self):
        self.assert_rules(
            [("count", (0,), (), 0, 0), ("count", (1, 0), (0, 99), 1, 5), ("count", (0,), (5,), made.BIG, made.BIG)],
            [("count", (0,), (1, 1), 0, 0), ("count", (0,), (2, 1), 0, 0), ("count", (0,), (100,), 0, 0),
             ("count", (0,), (True,), 0, 0), ("count", (0,), [1], 0, 0), ("count", (0,), (1,), 2, 1),
             ("count", (0,), (1,), -1, 1), ("count", (0,), (1,), 0, True), ("count", (0,), (1,), 0),
             ("count", (0,), 1, 0, 1), ("count", (0,), (-1,), 0, 1), ("count", (), (1,), 0, 1)],
        )

    def test_below(self):
        self.assert_rules(
            [("below", 0, 1), ("below", 2, 0)],
            [("below", 0, 0), ("below", 0, 3), ("below", -1, 0), ("below", True, 0), ("below", 0, True), ("below", 0),
             ("below", 0, 1, 2), ("below", (0, 1)), ("below", None, 1), ("below", (0,), (1,)), ("below", "0", "1")],
        )

    def test_runs(self):
        self.assert_rules(
            [("runs", (0,), ()), ("runs", (2, 1), (1, 5, 1)), ("runs", (2, 1), (made.BIG,))],
            [("runs", (0,), (0,)), ("runs", (0,), (1, -1)), ("runs", (0,), (True,)), ("runs", (0,), [1]),
             ("runs", (0,), 1), ("runs", (0,)), ("runs", (), ()), ("runs", (0, 0), ()), ("runs", (0,), ((1,),)),
             ("runs", (0,), (1,), ())],
        )

    def test_joined(self):
        self.assert_rules(
            [("joined", (0,), (), ()), ("joined", (2, 0, 1), ((0, 1), (0, 2), (1, 2)), (0, 99))],
            [("joined", (0, 1), ((1, 0),), ()), ("joined", (0, 1), ((0, 0),), ()), ("joined", (0, 1), ((0, 2),), ()),
             ("joined", (2, 0, 1), ((1, 2), (0, 1)), ()), ("joined", (0, 1), ((0, 1), (0, 1)), ()),
             ("joined", (0, 1), ((0, True),), ()), ("joined", (0, 1), ((False, 1),), ()), ("joined", (0, 1), ([0, 1],), ()),
             ("joined", (0, 1), [(0, 1)], ()), ("joined", (0, 1), ((0, 1, 1),), ()), ("joined", (0, 1), ((0,),), ()),
             ("joined", (0, 1), (0, 1), ()), ("joined", (0, 1), (), (2, 1)), ("joined", (0, 1), (), (100,)),
             ("joined", (0, 1), (), [1]), ("joined", (0, 1), ()), ("joined", (), (), ()), ("joined", (0, 0), (), ()),
             ("joined", (0, 1), (), (True,)), ("joined", (0, 1), None, ())],
        )

    def test_any_value_as_a_rule(self):
        for value in made.STRANGE + made.DEEP:
            self.assertEqual(is_rule(value, 2), oracle.is_rule(value, 2), value)


class CellsTest(unittest.TestCase):
    def test_cells_of_each_kind(self):
        self.assertEqual([cells_of(rule) for rule in made.KINDS[1]],
                         [(2, 0), (1, 0), (3, 1, 2), (0, 1, 2), (3, 1), (3, 2, 1, 0), (0, 3, 2, 1)])
        self.assertEqual(cells_of(("below", 0, 2)), (0, 2))


class FitsTest(unittest.TestCase):
    def assert_fits(self, rule, right, wrong):
        for values in right:
            self.assertIs(fits(rule, values), True, (rule, values))
        for values in wrong:
            self.assertIs(fits(rule, values), False, (rule, values))

    def test_table(self):
        self.assert_fits(("table", (1, 0), ((1, 2), (2, 1))), [(1, 2), (2, 1)], [(1, 1), (2, 2)])
        self.assert_fits(("table", (1, 0), ()), [], [(1, 1)])

    def test_unlike(self):
        self.assert_fits(("unlike", (2, 0, 1)), [(1, 2, 3), (0, 99, 1)], [(1, 2, 1), (2, 2, 1), (1, 2, 2), (0, 0, 0)])
        self.assert_fits(("unlike", (3,)), [(0,)], [])

    def test_sum_at_both_ends(self):
        self.assert_fits(("sum", (0, 1), 3, 5), [(0, 3), (2, 2), (5, 0)], [(1, 1), (3, 3), (0, 0)])
        self.assert_fits(("sum", (0,), 0, 0), [(0,)], [(1,)])

    def test_count_at_both_ends(self):
        self.assert_fits(("count", (0, 1, 2), (1, 5), 1, 2), [(1, 0, 0), (5, 1, 0), (0, 5, 5)], [(0, 0, 2), (1, 5, 1)])
        self.assert_fits(("count", (0,), (), 0, 3), [(0,), (7,)], [])
        self.assert_fits(("count", (0,), (), 1, 3), [], [(0,), (7,)])
        self.assert_fits(("count", (0,), (7,), 2, 9), [], [(0,), (7,)])

    def test_below(self):
        self.assert_fits(("below", 2, 0), [(1, 3), (0, 99)], [(3, 1), (2, 2)])

    def test_runs(self):
        row = (0, 1, 2, 3)
        self.assert_fits(("runs", row, (2, 1)), [(5, 1, 0, 2)], [(5, 1, 2, 0), (0, 5, 0, 2), (1, 0, 1, 1), (1, 1, 0, 0)])
        self.assert_fits(("runs", row, (1, 1)), [(1, 0, 1, 0), (0, 1, 0, 1), (1, 0, 0, 1)], [(1, 1, 0, 0), (1, 0, 0, 0)])
        self.assert_fits(("runs", row, (2,)), [(1, 1, 0, 0), (0, 0, 1, 1), (0, 2, 3, 0)], [(1, 0, 1, 0), (1, 1, 1, 0)])
        self.assert_fits(("runs", row, ()), [(0, 0, 0, 0)], [(0, 0, 0, 1), (1, 0, 0, 0)])
        self.assert_fits(("runs", row, (4,)), [(1, 9, 1, 1)], [(1, 1, 1, 0), (0, 0, 0, 0)])
        self.assert_fits(("runs", row, (5,)), [], [(1, 1, 1, 1)])

    def test_joined(self):
        path = ("joined", (0, 1, 2), ((0, 1), (1, 2)), (7,))
        self.assert_fits(path, [(0, 0, 0), (0, 7, 0), (7, 7, 0), (0, 7, 7), (7, 7, 7)], [(7, 0, 7)])
        self.assert_fits(("joined", (2, 0, 1), ((0, 1), (1, 2)), (7,)), [(7, 0, 7), (0, 7, 7)], [(7, 7, 0)])
        self.assert_fits(("joined", (0, 1), (), (7,)), [(0, 7), (0, 0)], [(7, 7)])
        self.assert_fits(("joined", (0, 1), (), ()), [(7, 7)], [])
        two = ("joined", (0, 1, 2, 3), ((0, 1), (2, 3)), (1, 2))
        self.assert_fits(two, [(1, 2, 0, 0), (0, 0, 2, 1)], [(1, 2, 2, 1), (1, 0, 1, 0)])

    def test_joined_over_a_long_way(self):
        ring = tuple((c, c + 1) for c in range(9))
        rule = ("joined", tuple(reversed(range(10))), ring, (1,))
        self.assert_fits(rule, [(1,) * 10, (0,) * 3 + (1,) * 7], [(1,) * 4 + (0,) + (1,) * 5])
        star = tuple((c, 9) for c in range(9))
        self.assert_fits(("joined", tuple(range(10)), star, (1,)), [(1,) * 10], [(1,) * 9 + (0,)])

    def test_as_the_oracle_tells(self):
        dice = random.Random(2)
        for word in oracle.WORDS:
            for _ in range(60):
                domains = ((0, 1, 2, 5),) * 4
                rule = made.made_rule(dice, domains, word)
                for values in product((0, 1, 2, 5), repeat=len(oracle.cells_of(rule))):
                    self.assertIs(fits(rule, values), oracle.fits(rule, values), (rule, values))


if __name__ == "__main__":
    unittest.main()
