"""Own leadings, least forms and turned grids: [10.5] to [10.7]."""

import random
import unittest
from itertools import permutations

import made
import oracle_alike
from test_alike import made_leading
from toldreasons.alike import all_values, led, led_after, led_answer, led_back, plain, standing
from toldreasons.answers import answers
from toldreasons.kinds import mined, painted, roaded, squares
from toldreasons.symmetry import (
    cell_lots, least_form, least_leading, own_leadings, own_turns, standing_pairs, turned, turned_cells, unlike_answers,
)

TURNS = ("same", "right", "half", "left", "across", "down", "main", "other")
FREE = (((1, 2), (1, 2)), ())


def puzzles(seed, many):
    found = made.made_puzzles(seed, many, most_cells=4, most_values=2, most_rules=2)
    found += made.made_puzzles(seed, many // 3, most_cells=3, most_values=3, most_rules=1, empty=0)
    return found + [made.PAIR, made.TRIO, made.FREE, made.TOLD, made.BARE, made.EMPTY]


def fewer_values(puzzle):
    return len(all_values(puzzle)) <= 4


class OwnLeadingsTest(unittest.TestCase):
    def test_all_of_them(self):
        sizes = set()
        for puzzle in filter(fewer_values, puzzles(201, 60)):
            own = own_leadings(puzzle)
            self.assertEqual(own, tuple(oracle_alike.leadings_between(puzzle, puzzle)))
            self.assertIn(standing(puzzle), own)
            self.assertEqual(own, own_leadings(plain(puzzle)))
            sizes.add(len(own))
        self.assertGreater(len(sizes), 4)

    def test_two_of_them_and_back(self):
        for puzzle in filter(fewer_values, puzzles(202, 30)):
            own = own_leadings(puzzle)
            for one in own[:12]:
                self.assertIn(led_back(one), own)
                for other in own[:12]:
                    self.assertIn(led_after(one, other), own)

    def test_bare_puzzles(self):
        self.assertEqual(own_leadings((((),), ())), (((0,), ()),))
        self.assertEqual(own_leadings((((), ()), ())), (((0, 1), ()), ((1, 0), ())))
        self.assertEqual(own_leadings((((9,),), ())), (((0,), ((9, 9),)),))
        self.assertEqual(len(own_leadings((((1, 2, 3, 4),) * 5, ()))), 120 * 24)
        sums = (((1, 2, 3, 4),) * 5, tuple(("sum", (0, 1, 2, 3, 4), low, low + 2) for low in range(5, 18)))
        self.assertEqual(len(own_leadings(sums)), 120)

    def test_tables_of_the_same_cells_that_change_places(self):
        puzzle = (((0, 1), (0, 1)), (("below", 0, 1), ("below", 1, 0)))
        swapped = (((0, 1), ((0, 0), (1, 1))), ((0, 1), ((0, 1), (1, 0))), ((1, 0), ((0, 0), (1, 1))), ((1, 0), ((0, 1), (1, 0))))
        self.assertEqual(own_leadings(puzzle), swapped)
        self.assertEqual(len(own_leadings((puzzle[0], puzzle[1] + (("count", (0,), (1,), 1, 1),)))), 1)


class LotsTest(unittest.TestCase):
    def test_cell_lots(self):
        for puzzle in filter(fewer_values, puzzles(203, 40)):
            own = oracle_alike.leadings_between(puzzle, puzzle)
            lots = {tuple(sorted({cells[c] for cells, _ in own})) for c in range(len(puzzle[0]))}
            self.assertEqual(cell_lots(puzzle), tuple(sorted(lots)))
            self.assertEqual(sorted(c for lot in cell_lots(puzzle) for c in lot), list(range(len(puzzle[0]))))

    def test_answers_and_standing_pairs(self):
        for puzzle in filter(fewer_values, puzzles(204, 60)):
            own = oracle_alike.leadings_between(puzzle, puzzle)
            found = answers(puzzle)
            lots = {frozenset(oracle_alike.led_answer(leading, answer) for leading in own) for answer in found}
            self.assertEqual(sorted(answer for lot in lots for answer in lot), list(found))
            self.assertEqual(unlike_answers(puzzle), tuple(sorted(min(lot) for lot in lots)))
            pairs = [leading for leading in own for answer in found if led_answer(leading, answer) == answer]
            self.assertEqual(standing_pairs(puzzle), len(pairs))
            self.assertEqual(standing_pairs(puzzle), len(lots) * len(own))

    def test_without_answers_and_free_ones(self):
        self.assertEqual((unlike_answers(made.TRIO), standing_pairs(made.TRIO)), ((), 0))
        self.assertEqual((unlike_answers((((), ()), ())), standing_pairs((((), ()), ()))), ((), 0))
        self.assertEqual(unlike_answers(FREE), ((1, 1), (1, 2)))
        self.assertEqual(standing_pairs(FREE), 2 * 4)


class LeastFormTest(unittest.TestCase):
    def test_it_is_the_least_and_many_lead_to_it(self):
        for puzzle in filter(fewer_values, puzzles(205, 60)):
            form, many = oracle_alike.least_form(puzzle)
            self.assertEqual(least_form(puzzle), form)
            self.assertEqual(led(puzzle, least_leading(puzzle)), form)
            self.assertEqual(many, len(own_leadings(puzzle)))

    def test_tables_with_the_same_cells(self):
        dice = random.Random(206)
        rows = [(a, b) for a in range(2) for b in range(2)]
        many = 0
        for _ in range(60):
            rules = []
            for cells in ((0, 1), (1, 2), (0, 2), (0, 1, 2)):
                for _ in range(dice.randint(0, 2)):
                    if len(cells) == 2:
                        rules.append(("table", cells, made.picked(dice, rows)))
                    else:
                        rules.append(("table", cells, made.picked(dice, [row + (value,) for row in rows for value in (0, 1)])))
            puzzle = (((0, 1),) * 3, tuple(rules))
            many += len({rule[1] for rule in plain(puzzle)[1]}) < len(plain(puzzle)[1])
            self.assertEqual(least_form(puzzle), oracle_alike.least_form(puzzle)[0], puzzle)
        self.assertGreater(many, 20)

    def test_equal_exactly_if_alike(self):
        dice = random.Random(207)
        found = [puzzle for puzzle in puzzles(207, 30) if fewer_values(puzzle) and len(puzzle[0]) < 4]
        found += [led(puzzle, made_leading(dice, puzzle)) for puzzle in found[:15]]
        same = 0
        for one in found:
            for other in found:
                alike = oracle_alike.leadings_between(one, other) != []
                self.assertEqual(least_form(one) == least_form(other), alike)
                same += alike and one != other
        self.assertGreater(same, 20)

    def test_without_values(self):
        self.assertEqual(least_form((((), ()), (("unlike", (1, 0)),))), (((), ()), (("table", (0, 1), ()),)))
        self.assertEqual(least_form((((),), ())), (((),), ()))
        self.assertEqual(least_form((((7,), ()), ())), (((), (0,)), ()))
        self.assertEqual(least_leading((((7,), ()), ())), ((1, 0), ((7, 0),)))

    def test_five_cells_and_four_values(self):
        dice = random.Random(208)
        domains = ((1, 2, 3, 4),) * 5
        for rules in (
            (), (("sum", (0, 1, 2, 3, 4), 10, 12),), (("unlike", (0, 1)), ("unlike", (1, 2)), ("unlike", (2, 3)), ("unlike", (3, 4))),
            (("below", 0, 1), ("below", 1, 2), ("sum", (2, 3, 4), 5, 9)),
        ):
            form = least_form((domains, rules))
            self.assertEqual(form[0], ((0, 1, 2, 3),) * 5)
            for _ in range(3):
                self.assertEqual(least_form(led((domains, rules), made_leading(dice, (domains, rules)))), form)
        self.assertEqual(least_form(((*domains[:4], (4,)), ()))[0], ((0,), *((0, 1, 2, 3),) * 4))


def place(w, h, turn, x, y):
    """Where a turn leads column x and row y: by quarter turns and the mirror across."""
    steps = {"same": (0, 0), "right": (1, 0), "half": (2, 0), "left": (3, 0),
             "across": (0, 1), "other": (3, 1), "down": (2, 1), "main": (1, 1)}
    quarters, mirrored = steps[turn]
    for _ in range(quarters):
        x, y, w, h = h - 1 - y, x, h, w
    return ((w - 1 - x, y) if mirrored else (x, y)), (w, h)


GRIDS = [(1, 1), (2, 1), (1, 3), (3, 2), (2, 3), (4, 4), (5, 3), (16, 1), (1, 16), (3, 3)]


class TurnsTest(unittest.TestCase):
    def test_as_it_is_told(self):
        told = {
            "same": lambda w, h, x, y: (x, y), "right": lambda w, h, x, y: (h - 1 - y, x),
            "half": lambda w, h, x, y: (w - 1 - x, h - 1 - y), "left": lambda w, h, x, y: (y, w - 1 - x),
            "across": lambda w, h, x, y: (w - 1 - x, y), "down": lambda w, h, x, y: (x, h - 1 - y),
            "main": lambda w, h, x, y: (y, x), "other": lambda w, h, x, y: (h - 1 - y, w - 1 - x),
        }
        self.assertEqual(tuple(told), TURNS)
        for w, h in GRIDS:
            for turn in TURNS:
                width = h if turn in ("right", "left", "main", "other") else w
                cells = turned_cells(w, h, turn)
                self.assertEqual(sorted(cells), list(range(w * h)))
                for y in range(h):
                    for x in range(w):
                        column, row = told[turn](w, h, x, y)
                        self.assertEqual(cells[y * w + x], row * width + column, (w, h, turn, x, y))
                        self.assertEqual(((column, row), (width, w * h // width)), place(w, h, turn, x, y))

    def test_pictures(self):
        # Cells 0 1 2 over 3 4 5, and where each of them stands behind the turn.
        pictures = {"same": "012 345", "right": "30 41 52", "half": "543 210", "left": "25 14 03",
                    "across": "210 543", "down": "345 012", "main": "03 14 25", "other": "52 41 30"}
        for turn, picture in pictures.items():
            cells = turned_cells(3, 2, turn)
            self.assertEqual([str(cells.index(at)) for at in range(6)], list(picture.replace(" ", "")))
        self.assertEqual({turned_cells(1, 1, turn) for turn in TURNS}, {(0,)})

    def test_turned(self):
        for w, h in ((2, 2), (3, 2), (1, 4)):
            for puzzle in made.made_puzzles(209, 12, most_cells=4):
                if len(puzzle[0]) == w * h:
                    for turn in TURNS:
                        leading = (turned_cells(w, h, turn), standing(puzzle)[1])
                        self.assertEqual(turned(puzzle, w, h, turn), led(puzzle, leading))

    def test_there_and_back(self):
        puzzle = mined((2, 3), ((1, 3), (5, 0)))
        for turn, back in (("right", "left"), ("left", "right"), ("main", "main"), ("other", "other")):
            self.assertEqual(turned(turned(puzzle, 3, 2, turn), 2, 3, back), plain(puzzle))
        for turn in ("same", "half", "across", "down"):
            self.assertEqual(turned(turned(puzzle, 3, 2, turn), 3, 2, turn), plain(puzzle))

    def test_own_turns(self):
        self.assertEqual(own_turns(squares(2), 2, 2), TURNS)
        self.assertEqual(own_turns(squares(3), 3, 3), TURNS)
        self.assertEqual(own_turns((((),), ()), 1, 1), TURNS)
        self.assertEqual(own_turns((((1,), (1,), (1,), (2,)), ()), 2, 2), ("same", "main"))
        self.assertEqual(own_turns((((1,), (1,), (1,), (2,)), ()), 4, 1), ("same", "down"))
        self.assertEqual(own_turns((((1,), (1,), (1,), (2,)), ()), 1, 4), ("same", "across"))
        self.assertEqual(own_turns((((1,), (2,), (2,), (1,)), ()), 2, 2), ("same", "half", "main", "other"))
        self.assertEqual(own_turns((((1,), (1,), (2,), (2,)), ()), 2, 2), ("same", "across"))
        self.assertEqual(own_turns(painted((2, 3), ((1, 1), ()), ((1,), (), (1,))), 3, 2), ("same", "across"))
        pinwheel = (((1, 2),) * 4, (("below", 0, 1), ("below", 1, 3), ("below", 3, 2), ("below", 2, 0)))
        self.assertEqual(own_turns(pinwheel, 2, 2), ("same", "right", "half", "left"))

    def test_own_turns_by_the_words(self):
        sizes = {}
        for w, h in ((2, 2), (4, 1), (1, 4), (2, 1), (3, 1), (1, 1)):
            for puzzle in made.made_puzzles(210, 150, most_cells=4, most_values=2, most_rules=1):
                if len(puzzle[0]) != w * h:
                    continue
                own = tuple(
                    turn for turn in TURNS
                    if (w == h or turn in ("same", "half", "across", "down")) and turned(puzzle, w, h, turn) == plain(puzzle)
                )
                self.assertEqual(own_turns(puzzle, w, h), own)
                sizes[own] = True
        self.assertGreater(len(sizes), 6)

    def test_sixteen_cells(self):
        puzzle = squares(4)
        self.assertEqual(own_turns(puzzle, 4, 4), TURNS)
        self.assertEqual(own_turns((puzzle[0], puzzle[1] + (("below", 0, 1),)), 4, 4), ("same",))
        self.assertEqual(own_turns(roaded((1, 9), (3,), (1, 0, 1) * 3), 9, 1), ("same", "half", "across", "down"))


class AllPermutationsTest(unittest.TestCase):
    def test_turns_are_own_leadings_where_they_lead_to_the_plain_form(self):
        puzzle = (((0, 1),) * 4, (("unlike", (0, 1)), ("unlike", (2, 3)), ("below", 0, 2)))
        own = {cells for cells, values in own_leadings(puzzle) if all(v == w for v, w in values)}
        for cells in permutations(range(4)):
            turns = [turn for turn in own_turns(puzzle, 2, 2) if turned_cells(2, 2, turn) == cells]
            if turns:
                self.assertIn(cells, own)


if __name__ == "__main__":
    unittest.main()
