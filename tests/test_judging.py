"""The judge of papers for live and dead values ([8.2])."""

import random
import unittest

import made
import oracle
import oracle_live
from toldreasons.judging import judge_live
from toldreasons.live import live_paper

DOMAINS = ((1, 2), (1, 2), (1, 2, 3))
BITS = ((0, 1),) * 5
UNLIKE = ("unlike", (2, 0, 1))
TABLE = ("table", (2, 0), ((1, 2), (3, 4)))
SUM = ("sum", (2, 1, 0), 0, 4)
COUNT = ("count", (0, 2, 1), (1, 2), 0, 1)
BELOW = ("below", 2, 0)
RUNS = ("runs", (0, 1, 2), (2,))
JOINED = ("joined", (0, 1, 2), ((0, 1), (1, 2)), (5,))
FIVES = ((5,), (0, 5), (5,))
CASES = oracle_live.made_cases(84, 60)


class JudgeLiveTest(unittest.TestCase):
    def assert_judged(self, domains, rule, cell, value, paper, fault):
        self.assertEqual(oracle_live.judge_live(domains, rule, cell, value, paper), fault, (rule, cell, value, paper))
        self.assertEqual(judge_live(domains, rule, cell, value, paper), fault, (rule, cell, value, paper))

    def test_row(self):
        self.assert_judged(DOMAINS, UNLIKE, 0, 2, ("live", (3, 2, 1)), None)
        for row in ((3, 1, 2), (3, 2, 2), (9, 2, 1), (3, 2, 9), (-3, 2, 1), (made.BIG, 2, 1)):
            self.assert_judged(DOMAINS, UNLIKE, 0, 2, ("live", row), ("row",))
        self.assert_judged(DOMAINS, TABLE, 2, 1, ("live", (1, 2)), None)
        self.assert_judged(DOMAINS, TABLE, 2, 3, ("live", (3, 4)), ("row",))
        self.assert_judged(DOMAINS, BELOW, 2, 1, ("live", (1, 2)), None)
        self.assert_judged(DOMAINS, BELOW, 0, 2, ("live", (1, 2)), None)
        self.assert_judged(DOMAINS, BELOW, 2, 1, ("live", (2, 1)), ("row",))
        self.assert_judged(BITS, RUNS, 1, 1, ("live", (0, 1, 1)), None)
        self.assert_judged(BITS, RUNS, 1, 1, ("live", (1, 1, 1)), ("row",))
        self.assert_judged(((1,), ()), ("unlike", (0, 1)), 0, 1, ("live", (1, 2)), ("row",))

    def test_row_form(self):
        for paper in (("live",), ("live", None), ("live", [3, 2, 1]), ("live", (3, 2)), ("live", (3, 2, 1, 1)), ("live", (3, 2, 1), ()),
                      ("live", (3, 2, True)), ("live", (3, 2, "1")), ("live", (3, 2, None)), ("live", (3, 2, (1,))), ["live", (3, 2, 1)],
                      ("live", 3, 2, 1), ("Live", (3, 2, 1)), (b"live".decode(), {0: 3}), ("live", (False, 2, 1))):
            self.assert_judged(DOMAINS, UNLIKE, 0, 2, paper, ("form",))

    def test_empty(self):
        domains = ((0, 1), (), (), (0, 1))
        for rule in (("table", (0, 2, 1), ()), ("unlike", (1, 0, 2)), ("sum", (2, 0, 1), 9, 9), ("count", (0, 1, 2), (), 3, 3),
                     ("runs", (0, 2, 1), (9,)), ("joined", (2, 0, 1), (), (1,))):
            for other, fault in ((1, None), (2, None), (0, ("reason",)), (3, ("form",)), (4, ("form",)), (-1, ("form",)),
                                 (True, ("form",)), (None, ("form",)), ((1,), ("form",)), ([], ("form",)), (made.BIG, ("form",))):
                self.assert_judged(domains, rule, 0, 1, ("dead", "empty", other), fault)
            for paper in (("dead", "empty"), ("dead", "empty", 1, 2), ("dead", "empty", (1, 2))):
                self.assert_judged(domains, rule, 0, 1, paper, ("form",))
        self.assert_judged(domains, ("below", 0, 1), 0, 1, ("dead", "empty", 1), None)
        self.assert_judged(domains, ("below", 0, 1), 0, 1, ("dead", "empty", 2), ("form",))
        self.assert_judged(domains, ("below", 3, 0), 0, 1, ("dead", "empty", 3), ("reason",))

    def test_what_is_said_of_all_values_of_an_empty_domain(self):
        domains = ((0, 1), (), (0, 1))
        self.assert_judged(domains, ("table", (0, 1), ((1, 1),)), 0, 1, ("dead", "rows"), None)
        self.assert_judged(domains, ("unlike", (0, 1)), 0, 1, ("dead", "lot", (1,), ()), None)
        self.assert_judged(domains, ("unlike", (0, 1, 2)), 0, 1, ("dead", "lot", (1, 2), (0,)), None)
        self.assert_judged(domains, ("unlike", (0, 1, 2)), 0, 1, ("dead", "lot", (2,), ()), ("reason",))
        self.assert_judged(domains, ("sum", (0, 1, 2), 0, 9), 0, 1, ("dead", "sums", ((0,), (), ())), None)
        self.assert_judged(domains, ("sum", (0, 1), 0, 9), 0, 1, ("dead", "sums", ((0,), ())), None)
        self.assert_judged(domains, ("sum", (0, 1), 0, 9), 0, 1, ("dead", "sums", ((0,), (3,))), ("reason",))
        # The cell without values surely has one of them, and cannot have one.
        self.assert_judged(domains, ("count", (0, 1), (0,), 0, 0), 0, 1, ("dead", "count", 1, 0), None)
        self.assert_judged(domains, ("count", (0, 1), (0,), 0, 0), 0, 1, ("dead", "count", 2, 0), ("reason",))
        self.assert_judged(domains, ("count", (0, 1), (0,), 1, 1), 0, 1, ("dead", "count", 1, 0), None)
        self.assert_judged(domains, ("below", 0, 1), 0, 1, ("dead", "below"), None)
        self.assert_judged(domains, ("runs", (0, 1), (1,)), 0, 1, ("dead", "runs", (((0, 0),), ((0, 1),), ())), None)
        # It is sure, and not possible, so no tie of it counts.
        self.assert_judged(domains, ("joined", (0, 1), ((0, 1),), (1,)), 0, 1, ("dead", "parted", (0,)), None)
        self.assert_judged(domains, ("joined", (0, 1), ((0, 1),), (1,)), 0, 0, ("dead", "parted", (0,)), ("reason",))

    def test_rows(self):
        self.assert_judged(DOMAINS, TABLE, 0, 1, ("dead", "rows"), None)
        self.assert_judged(DOMAINS, TABLE, 2, 3, ("dead", "rows"), None)
        self.assert_judged(DOMAINS, TABLE, 2, 1, ("dead", "rows"), ("reason",))
        self.assert_judged(DOMAINS, ("table", (0,), ()), 0, 1, ("dead", "rows"), None)
        for paper in (("dead", "rows", ()), ("dead", "rows", None), ("dead", "below"), ("dead", "lot", (), ()), ["dead", "rows"],
                      ("dead", ("rows",)), ("dead",), ("dead", None), ("dead", "rows", "rows"), (True, "rows"), ("rows", "dead")):
            self.assert_judged(DOMAINS, TABLE, 0, 1, paper, ("form",))

    def test_lot(self):
        for paper in ((0, 1), (2,)), ((0, 1), (1,)), ((0, 1), (-5,)), ((0, 1), (1, 2)), ((0,), (2,)), ((), ()), ((0, 1), (made.BIG,)), ((0,), ()):
            holds = paper == ((0, 1), (2,))
            self.assert_judged(DOMAINS, UNLIKE, 2, 1, ("dead", "lot") + paper, None if holds else ("reason",))
        # Another lot than the one that is told; values that no domain has.
        four = ((1, 2), (1, 2), (1, 2), (1, 2, 3))
        rule = ("unlike", (3, 2, 1, 0))
        for cells in ((0, 1), (0, 2), (1, 2)):
            self.assert_judged(four, rule, 3, 1, ("dead", "lot", cells, (2,)), None)
        self.assert_judged(four, rule, 3, 3, ("dead", "lot", (0, 1, 2), (1, 2)), None)
        self.assert_judged(four, rule, 3, 3, ("dead", "lot", (0, 1, 2), (1, 7)), ("reason",))
        self.assert_judged(four, rule, 3, 3, ("dead", "lot", (0, 1, 2), (1, 2, 7)), ("reason",))
        self.assert_judged(four, rule, 3, 1, ("dead", "lot", (0, 1, 2), (2, 7)), None)
        for paper in ((0, 1, 2), (2,)), ((1, 0), (2,)), ((0, 0), (2,)), ((0, 1), (2, 2)), ((0, 1), (2, 1)), ([0, 1], (2,)), ((0, 1), [2]), \
                ((0, 1), (True,)), ((False, 1), (2,)), ((0, True), (2,)), ((0, 3), (2,)), ((0, 1), ("2",)), ((0, 1),), ((0, 1), (2,), ()), \
                (None, None), ((0, 1), (None,)), ((0, (1,)), (2,)), ((0, 1), ((2,),)), ((-1, 0), (2,)):
            self.assert_judged(DOMAINS, UNLIKE, 2, 1, ("dead", "lot") + paper, ("form",))

    def test_sums(self):
        good = ((0,), (1, 2), (2, 3, 4))
        for rows, fault in ((good, None), (((0,), (1, 2), (2, 3, 4, 50)), None), (((0,), (-7, 1, 2), (-6, -5, 2, 3, 4)), None),
                            (((0,), (1, 2), (2, 3, 4, made.BIG)), None), (((0,), (1, 2), (-4, 2, 3, 4)), None), (((0,), (1, 2), (-3, 2, 3, 4)), ("reason",)),
                            (((0,), (1, 2), (1, 2, 3, 4)), ("reason",)), (((0,), (1, 2, 3), (2, 3, 4)), ("reason",)),
                            (((0,), (1, 2), (2, 3)), ("reason",)), (((0,), (1,), (2, 3)), ("reason",)), (((), (), ()), ("reason",)),
                            (((0, 1), (1, 2, 3), (2, 3, 4, 5)), ("reason",)), (((1,), (1, 2), (2, 3, 4)), ("reason",)),
                            (((-1, 0), (0, 1, 2), (1, 2, 3, 4)), ("reason",)), (((), (1, 2), (2, 3, 4)), ("reason",))):
            self.assert_judged(DOMAINS, SUM, 2, 3, ("dead", "sums", rows), fault)
        for rows in (good[:2], good + ((2, 3, 4),), list(good), ((0,), [1, 2], (2, 3, 4)), ((0,), (2, 1), (2, 3, 4)), ((0,), (1, 1, 2), (2, 3, 4)),
                     ((0,), (True, 2), (2, 3, 4)), ((False,), (1, 2), (2, 3, 4)), ((0,), (1, 2), (2, 3, "4")), (0, (1, 2), (2, 3, 4)), (),
                     None, ((0,), (1, 2), None), ((0,), (1, 2), ((2,), (3,)))):
            self.assert_judged(DOMAINS, SUM, 2, 3, ("dead", "sums", rows), ("form",))
        self.assert_judged(DOMAINS, SUM, 2, 3, ("dead", "sums") + good, ("form",))
        self.assert_judged(DOMAINS, SUM, 2, 3, ("dead", "sums"), ("form",))
        self.assert_judged(DOMAINS, ("sum", (1,), 2, 3), 1, 1, ("dead", "sums", ((0,),)), None)
        self.assert_judged(DOMAINS, ("sum", (1,), 2, 3), 1, 2, ("dead", "sums", ((0,),)), ("reason",))

    def test_count(self):
        # Of the rest one cell surely has 1 or 2, and two can have.
        for least, most, fault in ((1, 2, None), (1, 9, None), (1, made.BIG, None), (1, 1, ("reason",)), (2, 2, ("reason",)), (0, 2, ("reason",)),
                                   (-1, 2, ("reason",)), (made.BIG, 2, ("reason",)), (1, -1, ("reason",))):
            self.assert_judged(DOMAINS, COUNT, 0, 1, ("dead", "count", least, most), fault)
        # Weaker bounds that are true, and still show it.
        five = ((1, 2), (1,), (1,), (1,), (1, 9))
        most = ("count", (0, 1, 2, 3, 4), (1,), 0, 1)
        for least, fault in ((3, None), (2, None), (1, ("reason",)), (4, ("reason",))):
            self.assert_judged(five, most, 0, 2, ("dead", "count", least, 4), fault)
        for least, fault in ((3, None), (1, None), (0, ("reason",)), (4, ("reason",))):
            self.assert_judged(five, most, 0, 1, ("dead", "count", least, 7), fault)
        few = ("count", (0, 1, 2, 3, 4), (9,), 3, 9)
        for bound, fault in ((1, None), (2, None), (3, ("reason",)), (0, ("reason",))):
            self.assert_judged(five, few, 0, 2, ("dead", "count", 0, bound), fault)
        for told in ((1,), (1, 2, 3), (True, 2), (1, True), ("1", 2), (None, None), ((1, 2),), ([1], 2), ()):
            self.assert_judged(DOMAINS, COUNT, 0, 1, ("dead", "count") + told, ("form",))

    def test_below(self):
        self.assert_judged(DOMAINS, BELOW, 2, 2, ("dead", "below"), None)
        self.assert_judged(DOMAINS, BELOW, 2, 1, ("dead", "below"), ("reason",))
        self.assert_judged(DOMAINS, BELOW, 0, 1, ("dead", "below"), None)
        self.assert_judged(DOMAINS, BELOW, 0, 2, ("dead", "below"), ("reason",))
        for paper in (("dead", "below", 1), ("dead", "rows"), ("dead", "below", ()), ("below",), ("dead", "Below")):
            self.assert_judged(DOMAINS, BELOW, 2, 2, paper, ("form",))

    def test_runs(self):
        good = (((0, 0),), ((0, 0), (0, 1)), ((0, 0),), ((0, 0), (0, 1)))
        self.assert_judged(BITS, RUNS, 1, 0, ("dead", "runs", good), None)
        for at, states, fault in ((3, ((0, 0), (0, 1), (0, 7)), None), (3, ((0, 0), (0, 1), (9, 9)), None), (2, ((0, 0), (5, 3)), None), (2, ((0, 0), (1, 3)), None),
                                  (2, ((0, 0), (5, 0)), ("reason",)), (3, ((0, 0), (0, 1), (0, 2)), ("reason",)), (0, ((0, 0), (0, 1)), ("reason",)),
                                  (3, ((0, 0), (0, 1), (1, 0)), ("reason",)), (3, ((0, 0),), ("reason",)), (1, ((0, 1),), ("reason",)),
                                  (0, ((0, 1),), ("reason",)), (0, (), ("reason",)), (2, (), ("reason",)), (1, ((0, 0), (0, 1), (0, 2)), ("reason",))):
            self.assert_judged(BITS, RUNS, 1, 0, ("dead", "runs", good[:at] + (states,) + good[at + 1:]), fault)
        for at, states in ((0, [(0, 0)]), (0, ([0, 0],)), (0, ((0,),)), (0, ((0, 0, 0),)), (0, ((0, False),)), (0, ((-1, 0),)), (0, None), (0, (0, 0)),
                           (1, ((0, 1), (0, 0))), (1, ((0, 0), (0, 0), (0, 1))), (1, ((0, 0), (0, True))), (3, ((0, 0), (0, "1"))), (3, ((0, -1), (0, 0)))):
            self.assert_judged(BITS, RUNS, 1, 0, ("dead", "runs", good[:at] + (states,) + good[at + 1:]), ("form",))
        for rows in (good[:3], good + good[3:], list(good), (), None, good[0]):
            self.assert_judged(BITS, RUNS, 1, 0, ("dead", "runs", rows), ("form",))
        self.assert_judged(BITS, RUNS, 1, 0, ("dead", "runs") + good, ("form",))
        # No lengths: the end is (0, 0) alone.
        none = ("runs", (0, 1), ())
        self.assert_judged(BITS, none, 1, 1, ("dead", "runs", (((0, 0),), ((0, 0),), ())), None)
        self.assert_judged(BITS, none, 1, 1, ("dead", "runs", (((0, 0),), ((0, 0),), ((1, 0), (7, 7)))), None)
        self.assert_judged(BITS, none, 1, 1, ("dead", "runs", (((0, 0),), ((0, 0),), ((0, 0),))), ("reason",))
        self.assert_judged(BITS, none, 1, 0, ("dead", "runs", (((0, 0),), ((0, 0),), ())), ("reason",))

    def test_parted(self):
        for lot, fault in (((0,), None), ((2,), None), ((0, 1), None), ((1, 2), None), ((1,), ("reason",)), ((), ("reason",)), ((0, 2), ("reason",)),
                           ((0, 1, 2), ("reason",))):
            self.assert_judged(FIVES, JOINED, 1, 0, ("dead", "parted", lot), fault)
            self.assert_judged(FIVES, JOINED, 1, 5, ("dead", "parted", lot), ("reason",))
        for lot in ((0, 0), (2, 0), [0], (False,), (True,), (3,), (-1,), None, 0, (None,), ((0,),), "0"):
            self.assert_judged(FIVES, JOINED, 1, 0, ("dead", "parted", lot), ("form",))
        for paper in (("dead", "parted"), ("dead", "parted", (0,), ()), ("dead", "parted", 0)):
            self.assert_judged(FIVES, JOINED, 1, 0, paper, ("form",))
        # A way through a cell that can have one of the values joins both.
        self.assert_judged(((5,), (0, 5), (5,)), ("joined", (2, 1, 0), ((0, 1), (1, 2)), (5,)), 0, 5, ("dead", "parted", (0,)), ("reason",))

    def test_words_of_other_rules(self):
        papers = (("dead", "rows"), ("dead", "lot", (0,), ()), ("dead", "sums", ((0,), (1,))), ("dead", "count", 0, 0), ("dead", "below"),
                  ("dead", "runs", (((0, 0),), (), ())), ("dead", "parted", (0,)))
        rules = (("table", (0, 1), ()), ("unlike", (0, 1)), ("sum", (0, 1), 9, 9), ("count", (0, 1), (), 9, 9), ("below", 0, 1),
                 ("runs", (0, 1), (9,)), ("joined", (0, 1), (), (1,)))
        for rule in rules:
            for paper in papers:
                self.assert_judged(BITS, rule, 1, 1, paper, oracle_live.judge_live(BITS, rule, 1, 1, paper))
                if papers.index(paper) != rules.index(rule):
                    self.assertEqual(judge_live(BITS, rule, 1, 1, paper), ("form",))

    def test_papers_of_all(self):
        for domains, rule in CASES:
            found = oracle_live.live(domains, rule)
            cells = [c for c in oracle.cells_of(rule) if domains[c]]
            papers = [live_paper(domains, rule, c, v) for c in cells for v in domains[c]]
            for cell in cells:
                for value in domains[cell]:
                    self.assertIsNone(judge_live(domains, rule, cell, value, live_paper(domains, rule, cell, value)))
                    for paper in papers:
                        fault = oracle_live.judge_live(domains, rule, cell, value, paper)
                        self.assert_judged(domains, rule, cell, value, paper, fault)
                        # Nobody has a paper of a live value that it is dead, or the other way round.
                        if fault is None:
                            self.assertEqual(paper[0], "live" if (cell, value) in found else "dead")

    def test_small_changes(self):
        dice = random.Random(85)
        let = 0
        for domains, rule in CASES:
            found = oracle_live.live(domains, rule)
            pairs = [(c, v) for c in oracle.cells_of(rule) for v in domains[c]]
            for cell, value in made.some(pairs, 3, dice):
                for paper in made.some(made.changed(live_paper(domains, rule, cell, value)), 25, dice):
                    fault = oracle_live.judge_live(domains, rule, cell, value, paper)
                    self.assert_judged(domains, rule, cell, value, paper, fault)
                    if fault is None:
                        let += 1
                        self.assertEqual(paper[0], "live" if (cell, value) in found else "dead")
        self.assertGreater(let, 0)

    def test_any_value(self):
        for rule in (TABLE, UNLIKE, SUM, COUNT, BELOW, ("runs", (0, 1, 2), (2,)), ("joined", (0, 1, 2), ((0, 1),), (1,))):
            word = live_paper(DOMAINS, rule, 2, 3)[1]
            for value in made.STRANGE + made.DEEP:
                for paper in (value, (value,), ("live", value), ("live", (value,) * 3), ("dead", value), ("dead", "empty", value), (value, word),
                              ("dead", word, value), ("dead", word, value, value), ("dead", word, (value,)), ("dead", word, ((0,), value, value)),
                              ("dead", word, (((0, 0),), (value,), (value,), (value,)))):
                    self.assert_judged(DOMAINS, rule, 2, 3, paper, oracle_live.judge_live(DOMAINS, rule, 2, 3, paper))


if __name__ == "__main__":
    unittest.main()
