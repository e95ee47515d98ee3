"""Cells taken off, widths and their papers ([7.1] to [7.6])."""

import random
import unittest
from itertools import combinations, permutations

import made
import oracle
import oracle_widths
from cases import FOUR, ROUNDS, ROW
from oracle_widths import some_ties, ties_of
from toldreasons.strength import least_clash, least_solving, struck_by, verdict
from toldreasons.widths import (
    along, bag_behind, bags_of, is_ties, judge_lots, judge_runaway, judge_width, least_width, lots_within, neighbours,
    runaway, taken_off, width_of, width_paper,
)

RING = ((1, 3), (0, 2), (1, 3), (0, 2))
LINE = ((1,), (0, 2), (1,))
APART = ((), (), ())
WHOLE = ties_of(5, list(combinations(range(5), 2)))
STAR = ((1, 2, 3, 4), (0,), (0,), (0,), (0,))
GRID = ties_of(9, [(c, c + 1) for c in (0, 1, 3, 4, 6, 7)] + [(c, c + 3) for c in range(6)])
NAMED = (RING, LINE, APART, WHOLE, STAR, (), ((),), ((1,), (0,)))
DICE = random.Random(71)
MADE = NAMED + tuple(some_ties(DICE, 6) for _ in range(60))
SMALL = NAMED + tuple(some_ties(DICE, 5) for _ in range(40))


class TiesTest(unittest.TestCase):
    def test_neighbours(self):
        self.assertEqual(neighbours(made.KINDS), ((1, 2, 3), (0, 2, 3), (0, 1, 3), (0, 1, 2)))
        self.assertEqual(neighbours(ROW), LINE)
        self.assertEqual(neighbours(made.BARE), ((), ()))

    def test_neighbours_by_each_kind_of_rule(self):
        domains = ((0, 1),) * 4
        wanted = ((), (3,), (), (1,))
        for rule in (("table", (3, 1), ()), ("unlike", (1, 3)), ("sum", (3, 1), 0, 9), ("count", (1, 3), (), 0, 0),
                     ("below", 3, 1), ("below", 1, 3), ("runs", (3, 1), ()), ("joined", (3, 1), (), (1,)),
                     ("joined", (1, 3), ((1, 3),), ())):
            self.assertEqual(neighbours((domains, (rule,))), wanted, rule)
        # Ties of a rule of "joined" do not matter: all its cells are neighbours.
        self.assertEqual(neighbours((domains, (("joined", (2, 0, 1), ((0, 1),), (1,)),))), ((1, 2), (0, 2), (0, 1), ()))
        # A rule of one cell, and the same two cells in two rules.
        self.assertEqual(neighbours((domains, (("unlike", (2,)), ("sum", (0,), 0, 1)))), ((),) * 4)
        self.assertEqual(neighbours((domains, (("unlike", (2, 1)), ("below", 1, 2)))), ((), (2,), (1,), ()))

    def test_neighbours_as_the_oracle_tells(self):
        for puzzle in made.made_puzzles(72, 120, most_cells=6):
            self.assertEqual(neighbours(puzzle), oracle_widths.neighbours(puzzle))
            self.assertIs(is_ties(neighbours(puzzle)), True)

    def test_is_ties(self):
        for value in MADE + (GRID, ((),) * 16, ties_of(16, list(combinations(range(16), 2)))):
            self.assertIs(is_ties(value), True, value)
        for value in (None, True, [], {}, 0, "", [(1,), (0,)], ([1], [0]), ((1,), [0]), ((),) * 17, ((0,),), ((1,), ()), ((), (0,)),
                      ((2, 1), (0,), (0,)), ((1, 1), (0,)), ((True,), (0,)), ((1,), (False,)), ((1,), (0, 1)), ((1,), (0,), None),
                      ((2,), (), (0,), (4,)), ((-1,), (0,)), ((1,), (0,), (made.BIG,)), (1, 0), ((None,), ()), (((),), ())):
            self.assertIs(is_ties(value), False, value)

    def test_is_ties_of_any_value(self):
        for value in made.STRANGE + made.DEEP:
            for shown in (value, (value,), ((), value), ((value,),), (value, value)):
                self.assertIs(is_ties(shown), oracle_widths.is_ties(shown), shown)
        for ties in MADE:
            for value in made.some(made.changed(ties), 60, DICE):
                self.assertIs(is_ties(value), oracle_widths.is_ties(value), value)


class TakenOffTest(unittest.TestCase):
    def test_taken_off(self):
        self.assertEqual(taken_off(RING, 0, (0, 1, 2, 3)), ((), (2, 3), (1, 3), (1, 2)))
        self.assertEqual(taken_off(LINE, 1, (0, 1, 2)), ((2,), (), (0,)))
        self.assertEqual(taken_off(LINE, 0, (0, 1, 2)), ((), (2,), (1,)))
        self.assertEqual(taken_off(STAR, 0, (0, 1, 2, 3, 4)), ((), (2, 3, 4), (1, 3, 4), (1, 2, 4), (1, 2, 3)))
        self.assertEqual(taken_off(APART, 1, (0, 1, 2)), APART)
        self.assertEqual(taken_off(((),), 0, (0,)), ((),))

    def test_with_cells_already_gone(self):
        behind = taken_off(RING, 0, (0, 1, 2, 3))
        self.assertEqual(taken_off(behind, 1, (1, 2, 3)), ((), (), (3,), (2,)))
        self.assertEqual(taken_off(taken_off(behind, 1, (1, 2, 3)), 3, (2, 3)), ((), (), (), ()))

    def test_as_the_oracle_tells(self):
        for ties in MADE:
            order = DICE.sample(range(len(ties)), len(ties))
            left = sorted(order)
            for cell in order:
                behind = taken_off(ties, cell, tuple(left))
                self.assertEqual(behind, oracle_widths.taken_off(ties, cell, left))
                self.assertIs(is_ties(behind), True)
                self.assertEqual(behind[cell], ())
                ties = behind
                left.remove(cell)

    def test_bags_and_width(self):
        self.assertEqual(bags_of(RING, (0, 1, 2, 3)), ((0, (1, 3)), (1, (2, 3)), (2, (3,)), (3, ())))
        self.assertEqual(bags_of(LINE, (1, 0, 2)), ((1, (0, 2)), (0, (2,)), (2, ())))
        self.assertEqual(bags_of((), ()), ())
        self.assertEqual([width_of(STAR, order) for order in ((0, 1, 2, 3, 4), (1, 2, 3, 4, 0), (1, 0, 2, 3, 4))], [4, 1, 3])
        self.assertEqual([width_of((), ()), width_of(((),), (0,)), width_of(APART, (2, 0, 1))], [0, 0, 0])

    def test_bags_as_the_oracle_tells(self):
        for ties in MADE:
            for _ in range(3):
                order = tuple(DICE.sample(range(len(ties)), len(ties)))
                bags = bags_of(ties, order)
                self.assertEqual(bags, oracle_widths.bags_of(ties, order))
                self.assertEqual(width_of(ties, order), max([len(bag) for cell, bag in bags], default=0))
                # Which cells are gone, not in which sequence, tells the bag.
                for i, (cell, bag) in enumerate(bags):
                    self.assertEqual(bag_behind(ties, tuple(sorted(order[:i])), cell), bag)


class LeastWidthTest(unittest.TestCase):
    def test_bag_behind(self):
        self.assertEqual([bag_behind(RING, gone, 2) for gone in ((), (1,), (0, 1), (1, 3), (0, 1, 3))], [(1, 3), (0, 3), (3,), (0,), ()])
        # Ways lead through what is gone, not through other cells.
        self.assertEqual(bag_behind(LINE, (), 0), (1,))
        self.assertEqual(bag_behind(LINE, (1,), 0), (2,))
        self.assertEqual(bag_behind(((1,), (0, 2), (1, 3), (2, 4), (3,)), (1, 2, 3), 0), (4,))
        self.assertEqual(bag_behind(((1,), (0, 2), (1, 3), (2, 4), (3,)), (1, 3), 0), (2,))
        self.assertEqual(bag_behind(((),), (), 0), ())
        for ties in MADE:
            for cell in range(len(ties)):
                gone = made.picked(DICE, [c for c in range(len(ties)) if c != cell])
                self.assertEqual(bag_behind(ties, gone, cell), oracle_widths.bag_behind(ties, gone, cell))

    def test_least_width(self):
        self.assertEqual(least_width(()), (0, ()))
        self.assertEqual(least_width(((),)), (0, (0,)))
        self.assertEqual(least_width(APART), (0, (0, 1, 2)))
        self.assertEqual(least_width(RING), (2, (0, 1, 2, 3)))
        self.assertEqual(least_width(STAR), (1, (1, 2, 3, 0, 4)))
        self.assertEqual(least_width(WHOLE), (4, (0, 1, 2, 3, 4)))
        self.assertEqual(least_width(GRID)[0], 3)

    def test_the_first_of_all_orders(self):
        for ties in SMALL:
            self.assertEqual(least_width(ties), oracle_widths.least_width(ties))
        for ties in [some_ties(DICE, 7) for _ in range(4)]:
            self.assertEqual(least_width(ties), oracle_widths.least_width(ties))

    def test_a_small_bag_now_may_cost_a_great_one_later(self):
        # Cell 0 has a bag of four cells, too, but who takes it off first comes to bags of more than four.
        ties = ((2, 3, 5, 6), (2, 3, 4, 5, 6), (0, 1, 3, 4, 6), (0, 1, 2, 4, 5), (1, 2, 3, 5, 6), (0, 1, 3, 4), (0, 1, 2, 4))
        self.assertIs(is_ties(ties), True)
        self.assertEqual(least_width(ties), (4, (5, 3, 0, 1, 2, 4, 6)))
        self.assertEqual(oracle_widths.least_width(ties), (4, (5, 3, 0, 1, 2, 4, 6)))

    def test_of_ten_cells(self):
        for many in range(6):
            ties = ties_of(10, [edge for edge in combinations(range(10), 2) if DICE.random() < many / 5])
            width, order = least_width(ties)
            self.assertEqual(width_of(ties, order), width)
            self.assertIsNone(judge_width(ties, width_paper(ties)))


class LotsTest(unittest.TestCase):
    def test_lots_within(self):
        self.assertEqual(lots_within(RING, 1), ((),))
        self.assertEqual(lots_within(RING, 2), ((),))
        self.assertEqual(len(lots_within(RING, 3)), 16)
        self.assertEqual(lots_within((), 1), ((),))
        self.assertEqual(lots_within(((),), 1), ((), (0,)))
        self.assertEqual(lots_within(STAR, 2)[:3], ((), (0, 1, 2, 3), (0, 1, 2, 3, 4)))

    def test_as_the_oracle_tells(self):
        for ties in MADE:
            for w in (1, 2, 3, 16):
                lots = lots_within(ties, w)
                self.assertEqual(lots, oracle_widths.lots_within(ties, w))
                # Just one: an order of a lesser width, or these are lots of w.
                all_cells = tuple(range(len(ties)))
                self.assertEqual(all_cells in lots, least_width(ties)[0] < w)
                self.assertEqual(judge_lots(ties, w, lots), ("all",) if all_cells in lots else None)

    def test_form(self):
        for value in (None, True, [], {}, 0, "", [()], (None,), (0,), ([],), ((), ()), ((), [0]), ((0,), ()), ((), (1, 0)), ((), (0, 0)),
                      ((), (True,)), ((), (4,)), ((), (-1,)), ((), ("0",)), ((), ((0,),)), ((), (made.BIG,)), ((), (0,), (0,))):
            self.assertEqual(judge_lots(RING, 2, value), ("form",), value)

    def test_start_all_next(self):
        self.assertEqual(judge_lots(RING, 2, ()), ("start",))
        self.assertEqual(judge_lots(RING, 2, ((0, 1, 2, 3),)), ("start",))
        self.assertEqual(judge_lots(RING, 2, ((), (0, 1, 2, 3))), ("all",))
        self.assertEqual(judge_lots((), 1, ()), ("start",))
        self.assertEqual(judge_lots((), 1, ((),)), ("all",))
        self.assertEqual(judge_lots(RING, 3, ((), (0, 1, 2, 3))), ("all",))
        self.assertEqual(judge_lots(RING, 3, ((),)), ("next", (), 0))
        self.assertEqual(judge_lots(RING, 3, ((), (0,), (1,), (3,))), ("next", (), 2))
        self.assertEqual(judge_lots(RING, 3, ((), (0,), (0, 1), (1,), (2,), (3,))), ("next", (0,), 2))
        self.assertEqual(judge_lots(STAR, 1, ((),)), None)
        self.assertEqual(judge_lots(STAR, 2, ((),)), ("next", (), 1))
        # Other lots than those within may stand there, too.
        self.assertIsNone(judge_lots(WHOLE, 3, ((), (0,))))

    def test_any_value(self):
        for value in made.STRANGE + made.DEEP:
            for shown in (value, (value,), ((), value), ((), (value,)), ((), (0, value))):
                for ties in (RING, (), ((),)):
                    self.assertEqual(judge_lots(ties, 2, shown), oracle_widths.judge_lots(ties, 2, shown), shown)

    def test_small_changes(self):
        for ties in MADE:
            for w in (1, 2, 3):
                for value in made.some(made.changed(lots_within(ties, w)), 15, DICE):
                    self.assertEqual(judge_lots(ties, w, value), oracle_widths.judge_lots(ties, w, value), (ties, w, value))
                cells = range(len(ties))
                lots = [made.picked(DICE, cells) for _ in range(DICE.randint(0, 20))]
                value = tuple(sorted(set(lots + [()])))
                self.assertEqual(judge_lots(ties, w, value), oracle_widths.judge_lots(ties, w, value), (ties, w, value))


class WidthPaperTest(unittest.TestCase):
    def test_width_paper(self):
        self.assertEqual(width_paper(()), (0, (), ()))
        self.assertEqual(width_paper(APART), (0, (0, 1, 2), ()))
        self.assertEqual(width_paper(RING), (2, (0, 1, 2, 3), ((),)))
        for ties in MADE:
            width, order, lots = width_paper(ties)
            self.assertEqual((width, order), least_width(ties))
            self.assertEqual(lots, lots_within(ties, width) if width else ())
            self.assertIsNone(judge_width(ties, (width, order, lots)))
            self.assertIsNone(oracle_widths.judge_width(ties, (width, order, lots)))

    def test_form(self):
        good = (2, (0, 1, 2, 3), ((),))
        for value in (None, True, [], (), {}, list(good), good[:2], good + ((),), (True, (0, 1, 2, 3), ((),)), (-1,) + good[1:],
                      (None,) + good[1:], ("2",) + good[1:], (2, [0, 1, 2, 3], ((),)), (2, (0, 1, 2), ((),)), (2, (0, 1, 2, 2), ((),)),
                      (2, (0, 1, 2, 4), ((),)), (2, (False, 1, 2, 3), ((),)), (2, (0, True, 2, 3), ((),)), (2, (0, 1, 2, 3), [()]),
                      (2, (0, 1, 2, 3), None), (0, (0, 1, 2, 3), ((),)), (0, (0, 1, 2, 3), []), (2, (0, 1, 2, (3,)), ((),)),
                      (2, (0, 1, 2, 3, 0), ((),)), (2, (-4, 1, 2, 3), ((),)), (2, None, ((),)), (2, ("0", 1, 2, 3), ((),))):
            self.assertEqual(judge_width(RING, value), ("form",), value)

    def test_width_and_lots(self):
        order = (0, 1, 2, 3)
        self.assertEqual(judge_width(RING, (1, order, ((),))), ("width", 2))
        self.assertEqual(judge_width(RING, (0, order, ())), ("width", 2))
        self.assertEqual(judge_width(RING, (made.BIG, order, None)), ("form",))
        self.assertEqual(judge_width(RING, (made.BIG, order, ())), ("width", 2))
        self.assertEqual(judge_width(STAR, (1, (0, 1, 2, 3, 4), ((),))), ("width", 4))
        self.assertEqual(judge_width(RING, (2, order, ())), ("lots", ("start",)))
        self.assertEqual(judge_width(RING, (2, order, (None,))), ("lots", ("form",)))
        self.assertEqual(judge_width(RING, (2, order, ((), order))), ("lots", ("all",)))
        self.assertEqual(judge_width(STAR, (3, (1, 0, 2, 3, 4), ((),))), ("lots", ("next", (), 1)))
        self.assertIsNone(judge_width(RING, (2, (3, 1, 0, 2), ((),))))
        self.assertIsNone(judge_width(APART, (0, (2, 0, 1), ())))
        self.assertIsNone(judge_width((), (0, (), ())))
        self.assertEqual(judge_width((), (1, (), ((),))), ("width", 0))

    def test_any_value(self):
        for value in made.STRANGE + made.DEEP:
            for shown in (value, (value, (0, 1, 2, 3), ((),)), (2, value, ((),)), (2, (0, 1, 2, 3), value), (2, (0, 1, 2, 3), (value,))):
                self.assertEqual(judge_width(RING, shown), oracle_widths.judge_width(RING, shown), shown)

    def test_small_changes(self):
        for ties in SMALL:
            for value in made.some(made.changed(width_paper(ties)), 30, DICE):
                self.assertEqual(judge_width(ties, value), oracle_widths.judge_width(ties, value), (ties, value))
            order = tuple(DICE.sample(range(len(ties)), len(ties)))
            for w in range(4):
                value = (w, order, lots_within(ties, w) if w else ())
                self.assertEqual(judge_width(ties, value), oracle_widths.judge_width(ties, value), (ties, value))


class RunawayTest(unittest.TestCase):
    def test_runaway(self):
        self.assertEqual(runaway(((1,), (0,)), 1), (((), (0, 1)), ((0,), (1,)), ((1,), (0,))))
        self.assertEqual(runaway(((1,), (0,)), 2), ())
        self.assertEqual(runaway((), 1), ())
        self.assertEqual(runaway(((),), 1), ())
        self.assertEqual(runaway(APART, 1), ())
        self.assertEqual([len(runaway(RING, w)) for w in (1, 2, 3, 4)], [5, 13, 0, 0])

    def test_as_the_oracle_tells(self):
        for ties in SMALL:
            for w in (1, 2, 3, 4):
                found = runaway(ties, w)
                self.assertEqual(found, oracle_widths.runaway(ties, w), (ties, w))
                self.assertEqual(judge_runaway(ties, w, found), None if found else ("form",))
                # There is one just where no order has a width below w.
                self.assertEqual(found != (), least_width(ties)[0] >= w)

    def test_of_seven_cells(self):
        for ties in [some_ties(DICE, 7) for _ in range(12)] + [ties_of(7, list(combinations(range(7), 2)))]:
            for w in (2, 3, 4):
                found = runaway(ties, w)
                self.assertEqual(judge_runaway(ties, w, found), None if found else ("form",))
                self.assertEqual(found != (), least_width(ties)[0] >= w)

    def test_each_runaway_lies_in_it(self):
        for ties in SMALL:
            for w in (1, 2):
                whole = runaway(ties, w)
                for _ in range(5):
                    some = tuple(stand for stand in whole if DICE.random() < 0.9)
                    expected = oracle_widths.judge_runaway(ties, w, some)
                    self.assertEqual(judge_runaway(ties, w, some), expected)
        # A lesser one: two cells apart from two other ones that are neighbours, too.
        twice = ((1,), (0,), (3,), (2,))
        lesser = (((), (0, 1)), ((0,), (1,)), ((1,), (0,)), ((2,), (0, 1)), ((3,), (0, 1)))
        self.assertIsNone(judge_runaway(twice, 1, lesser))
        self.assertLess(set(lesser), set(runaway(twice, 1)))

    def test_form(self):
        for value in ((), None, True, [], {}, 0, "", [((), (0, 1))], (None,), ((),), (((),),), (((), (0, 1), ()),), ([(), (0, 1)],),
                      (((), [0, 1]),), (([], (0, 1)),), (((), (1, 0)),), (((), (0, 0)),), (((), (0, True)),), (((False,), (1,)),),
                      (((), (0, 2)),), (((), (-1, 0)),), (((), (0, 1)), ((), (0, 1))), (((0,), (1,)), ((), (0, 1))), (((), 0),),
                      (((), (made.BIG,)),)):
            self.assertEqual(judge_runaway(((1,), (0,)), 1, value), ("form",), value)

    def test_stand(self):
        self.assertEqual(judge_runaway(RING, 1, (((), (0,)),)), ("stand", 0))
        self.assertEqual(judge_runaway(RING, 1, (((), ()),)), ("stand", 0))
        self.assertEqual(judge_runaway(RING, 1, (((), (0, 1, 2, 3)), ((0,), (1, 2)))), ("stand", 1))
        self.assertEqual(judge_runaway(RING, 1, (((0, 2), (1,)),)), ("stand", 0))
        self.assertEqual(judge_runaway(RING, 2, (((0, 2), (1, 3)),)), ("stand", 0))
        self.assertEqual(judge_runaway(RING, 2, (((0,), (0, 1, 2, 3)),)), ("stand", 0))
        # All are to be stands, ahead of what they break.
        self.assertEqual(judge_runaway(RING, 2, (((), (0, 1, 2, 3)), ((0, 2), (1, 3)))), ("stand", 1))

    def test_shut(self):
        found = runaway(RING, 2)
        self.assertEqual(judge_runaway(RING, 2, (((), (0, 1, 2, 3)),)), ("shut", 0, 0))
        self.assertEqual(judge_runaway(RING, 2, tuple(stand for stand in found if stand[0] != (3,))), ("shut", 0, 3))
        # (i) goes ahead of (ii), whatever the cells are.
        self.assertEqual(judge_runaway(RING, 2, (((0,), (1, 2, 3)),)), ("shut", 0, 1))
        self.assertEqual(judge_runaway(RING, 1, (((0,), (1, 2, 3)),)), ("shut", 0, 0))
        self.assertEqual(judge_runaway(RING, 2, (((1, 3), (0,)),)), ("shut", 0, 1))
        self.assertEqual(judge_runaway(RING, 2, (((1, 3), (0,)), ((3,), (0, 1, 2)))), ("shut", 0, 3))
        self.assertEqual(judge_runaway(RING, 3, found), oracle_widths.judge_runaway(RING, 3, found))
        # A cell beside the place is shut, too: the place stays, and has to be there.
        twice = ((1,), (0,), (3,), (2,))
        self.assertEqual(judge_runaway(twice, 1, (((), (0, 1)), ((0,), (1,)), ((1,), (0,)))), ("shut", 0, 2))
        # The place without the shut cell is the one that has this place in it, no other one.
        self.assertEqual(judge_runaway(twice, 1, (
            ((), (0, 1)), ((0,), (1,)), ((0,), (2, 3)), ((1,), (0,)), ((2,), (0, 1)), ((3,), (0, 1)))), ("shut", 2, 0))

    def test_any_value(self):
        for value in made.STRANGE + made.DEEP:
            for shown in (value, (value,), ((value, (0, 1)),), (((), value),), (((), (0, value)),), (((), (0, 1)), value)):
                for ties in (((1,), (0,)), (), RING):
                    self.assertEqual(judge_runaway(ties, 1, shown), oracle_widths.judge_runaway(ties, 1, shown), shown)

    def test_small_changes(self):
        for ties in SMALL:
            for w in (1, 2, 3):
                values = list(made.some(made.changed(runaway(ties, w)), 15, DICE))
                values += [tuple(sorted(made.some(oracle_widths.stands(ties, w), 6, DICE)))]
                for value in values:
                    self.assertEqual(judge_runaway(ties, w, value), oracle_widths.judge_runaway(ties, w, value), (ties, w, value))


class AlongTest(unittest.TestCase):
    def test_by_hand(self):
        puzzle = (((1, 2), (1, 2), (1, 2)), (("unlike", (0, 1)), ("unlike", (1, 2))))
        self.assertEqual(along(puzzle, (0, 1, 2), 2), (1, 2, 1))
        self.assertEqual(along(puzzle, (2, 1, 0), 2), (1, 2, 1))
        self.assertEqual(along(puzzle, (1, 0, 2), 3), (1, 2, 1))
        # The part of a cell and its bag has more than k cells: no value can be had.
        self.assertIsNone(along(puzzle, (0, 1, 2), 1))
        self.assertIsNone(along(puzzle, (1, 0, 2), 2))
        # The book has not () in it.
        self.assertIsNone(along(made.TRIO, (0, 1, 2), 2))
        self.assertIsNone(along(made.EMPTY, (0, 1, 2), 1))
        self.assertIsNone(along(made.TRIO, (0, 1, 2), 1))
        self.assertEqual(along(made.BARE, (1, 0), 1), (4, 2))
        self.assertEqual(along(ROW, (0, 1, 2), 2), (0, 1, 2))
        self.assertIsNone(along(FOUR, (0, 1, 2, 3), 1))

    def test_it_is_an_answer_where_k_is_greater_than_the_width(self):
        for puzzle, k, rounds in ROUNDS:
            for order in made.some(permutations(range(len(puzzle[0]))), 4, DICE):
                found = along(puzzle, order, k)
                self.assertEqual(found, oracle_widths.along(puzzle, order, k, rounds))
                if width_of(neighbours(puzzle), order) < k:
                    self.assertEqual(found is None, () in rounds)
                    self.assertTrue(found is None or found in oracle.answers(puzzle))

    def test_small_widths_are_enough(self):
        for puzzle, k, rounds in ROUNDS:
            width, order = least_width(neighbours(puzzle))
            if width < k:
                found = oracle.answers(puzzle)
                self.assertEqual(verdict(puzzle, k)[0] == "clash", not found)
                live = {(c, values[c]) for values in found for c in range(len(values))}
                pairs = [(c, value) for c, domain in enumerate(puzzle[0]) for value in domain]
                self.assertEqual(struck_by(puzzle, k), tuple(pair for pair in pairs if pair not in live))
                if len(found) == 1:
                    self.assertLessEqual(least_solving(puzzle), width + 1)
                if not found and len(puzzle[0]) < 4:
                    self.assertLessEqual(least_clash(puzzle), width + 1)


if __name__ == "__main__":
    unittest.main()
