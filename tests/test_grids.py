"""What is read off values of grids, and grids as texts: [11.3] to [11.5]."""

import random
import unittest
from itertools import product

import made
from toldreasons.answers import answers
from toldreasons.grids import (
    lots_shown, mined_by, painted_by, read_lots, read_shown, roaded_by, run_lengths, shown, signed_by, summed_by,
)
from toldreasons.kinds import mined, painted, roaded, side_ties, signed, squares, summed
from toldreasons.puzzles import is_answer
from toldreasons.rules import fits

GRIDS = [(1, 1), (1, 4), (4, 1), (2, 2), (2, 3), (3, 2), (3, 3), (4, 4), (16, 1), (2, 8)]


def rolled(dice, grid, values):
    return tuple(dice.choice(values) for _ in range(grid[0] * grid[1]))


class ReadersTest(unittest.TestCase):
    def test_run_lengths(self):
        self.assertEqual(run_lengths((0, 0)), ())
        self.assertEqual(run_lengths((5,)), (1,))
        self.assertEqual(run_lengths((0, 3, 99, 1, 0, 0, 7, 0)), (3, 1))
        self.assertEqual(run_lengths((1, 0, 1, 0, 1, 1)), (1, 1, 2))
        for values in product((0, 1, 9), repeat=6):
            words = "".join("x" if value else " " for value in values).split()
            self.assertEqual(run_lengths(values), tuple(len(word) for word in words))
            self.assertTrue(fits(("runs", (0, 1, 2, 3, 4, 5), run_lengths(values)), values))

    def test_other_values_than_0_and_1(self):
        values = (0, 2, 1, 7, 0, 1)
        self.assertEqual(painted_by((2, 3), values), (((2,), (1, 1)), ((1,), (1,), (2,))))
        self.assertEqual(roaded_by((2, 3), values), ((1, 1), (0, 0, 2)))
        self.assertEqual(mined_by((2, 3), values), ((0, 0), (4, 2)))
        self.assertEqual(painted_by((1, 1), (5,)), (((1,),), ((1,),)))
        self.assertEqual(roaded_by((1, 1), (5,)), ((0,), (0,)))
        self.assertEqual((mined_by((1, 1), (5,)), mined_by((1, 1), (0,))), ((), ((0, 0),)))

    def test_grids_of_one_row_and_of_one_column(self):
        self.assertEqual(painted_by((1, 3), (1, 0, 1)), (((1, 1),), ((1,), (), (1,))))
        self.assertEqual(painted_by((3, 1), (1, 0, 1)), (((1,), (), (1,)), ((1, 1),)))
        self.assertEqual(roaded_by((1, 3), (1, 0, 1)), ((2,), (1, 0, 1)))
        self.assertEqual(mined_by((3, 1), (1, 0, 1)), ((1, 2),))

    def test_sums_and_signs(self):
        self.assertEqual(summed_by((), (1, 2)), ())
        self.assertEqual(summed_by(((2, 0), (2, 1), (1,)), (99, 7, 1)), (((2, 0), 100), ((2, 1), 8), ((1,), 7)))
        self.assertEqual(signed_by(1, (4,)), ())
        self.assertEqual(signed_by(2, (0, 0, 0, 0)), ())
        self.assertEqual(signed_by(2, (2, 1, 1, 2)), ((1, 0), (1, 3), (2, 0), (2, 3)))
        self.assertEqual(signed_by(2, (7, 0, 7, 50)), ((1, 0), (1, 3), (2, 3)))
        dice = random.Random(301)
        for size in (2, 3, 4):
            for _ in range(20):
                values = rolled(dice, (size, size), (0, 1, 2, 50, 99))
                ties = side_ties((size, size))
                pairs = [pair for pair in ties + tuple(pair[::-1] for pair in ties) if values[pair[0]] < values[pair[1]]]
                self.assertEqual(signed_by(size, values), tuple(sorted(pairs)))

    def test_what_is_read_has_the_values_for_an_answer(self):
        dice = random.Random(302)
        for grid in GRIDS:
            for _ in range(25):
                values = rolled(dice, grid, (0, 1))
                self.assertTrue(is_answer(painted(grid, *painted_by(grid, values)), values))
                self.assertTrue(is_answer(mined(grid, mined_by(grid, values)), values))
                road = roaded(grid, *roaded_by(grid, values))
                joined = fits(road[1][-1], values)
                self.assertEqual(is_answer(road, values), joined)
        self.assertTrue(is_answer(roaded((2, 2), *roaded_by((2, 2), (0,) * 4)), (0,) * 4))
        self.assertTrue(is_answer(roaded((2, 3), *roaded_by((2, 3), (1, 1, 0, 0, 1, 1))), (1, 1, 0, 0, 1, 1)))
        self.assertFalse(is_answer(roaded((2, 2), *roaded_by((2, 2), (1, 0, 0, 1))), (1, 0, 0, 1)))

    def test_sums_have_the_values_for_an_answer_exactly_if_no_lot_has_one_twice(self):
        dice = random.Random(303)
        seen = set()
        for _ in range(150):
            grid = dice.choice(GRIDS[:7])
            cells = range(grid[0] * grid[1])
            most = dice.randint(1, 9)
            values = rolled(dice, grid, range(1, most + 1))
            lots = tuple(tuple(dice.sample(cells, dice.randint(1, min(3, len(cells))))) for _ in range(dice.randint(0, 3)))
            unlike = all(len({values[cell] for cell in lot}) == len(lot) for lot in lots)
            self.assertEqual(is_answer(summed(grid, most, summed_by(lots, values)), values), unlike)
            seen.add(unlike)
        self.assertEqual(seen, {True, False})

    def test_squares_with_signs(self):
        for size in (1, 2, 3):
            found = answers(squares(size))
            right = [values for values in product(range(1, size + 1), repeat=size * size) if all(
                len({values[cell] for cell in lot}) == size
                for lot in [range(r * size, r * size + size) for r in range(size)] + [range(c, size * size, size) for c in range(size)]
            )]
            self.assertEqual(found, tuple(right))
            for values in found:
                puzzle = signed(size, signed_by(size, values))
                for others in found:
                    same = signed_by(size, values) == signed_by(size, others)
                    self.assertEqual(is_answer(puzzle, others), same)
                self.assertTrue(is_answer(puzzle, values))


class ShownTest(unittest.TestCase):
    def test_shown(self):
        self.assertEqual(shown((1, 1), (None,)), ".")
        self.assertEqual(shown((1, 3), (0, None, 99)), "0 . 99")
        self.assertEqual(shown((3, 1), (0, None, 99)), "0\n.\n99")
        self.assertEqual(shown((2, 2), (10, 9, None, None)), "10 9\n. .")

    def test_there_and_back(self):
        dice = random.Random(304)
        for grid in GRIDS:
            for _ in range(20):
                values = rolled(dice, grid, (None, None, 0, 1, 9, 10, 42, 99))
                text = shown(grid, values)
                rows = [values[start:start + grid[1]] for start in range(0, len(values), grid[1])]
                self.assertEqual(text, "\n".join(" ".join("." if v is None else str(v) for v in row) for row in rows))
                self.assertEqual(read_shown(grid, text), values)
                for other in GRIDS:
                    if other != grid:
                        self.assertIsNone(read_shown(other, text), (other, text))

    def test_what_is_no_such_text(self):
        for text in (
            "", ".", "1", "1 .", "1 .\n", "1 .\n12", "1 .\n12 0\n", "\n1 .\n12 0", "1 .\n12 0 ", " 1 .\n12 0", "1  .\n12 0", "1 .\n\n12 0",
            "1 .\n12 00", "01 .\n12 0", "1 .\n12 100", "1 .\n12 -1", "1 .\n12 +1", "1 .\n12 x", "1 . 2\n12 0 1", "1 .\n12 0\n. .",
            "1 . 12 0", "1\n.\n12\n0", "1 .\n12 0\n.", "1 ..\n12 0", "1 .\n12\t0", "1 .\r\n12 0", "1, .\n12 0", "1 .\n12 0.", "1 .\n1 2 0",
            "1 .\n12 999999999", "1 .\n12 9999999999", "1 .\n12 1_0", "-\n",
        ):
            self.assertIsNone(read_shown((2, 2), text), text)
        for value in made.STRANGE + made.DEEP + (["1 .", "12 0"], ("1 .\n12 0",), b"1 .\n12 0", 0, 1.5):
            self.assertIsNone(read_shown((2, 2), value), value)
        self.assertIsNone(read_shown((1, 1), 1))
        self.assertIsNone(read_shown((1, 1), None))
        self.assertIsNone(read_shown((1, 1), "."  "\n"))

    def test_each_small_change(self):
        dice = random.Random(305)
        for grid in ((1, 1), (2, 2), (1, 3), (3, 1)):
            right = {}
            for values in product((None, 0, 1, 7, 10, 71, 99), repeat=grid[0] * grid[1]) if grid != (2, 2) else ():
                right[shown(grid, values)] = values
            for _ in range(12):
                text = shown(grid, rolled(dice, grid, (None, 0, 7, 10, 99)))
                for at in range(len(text) + 1):
                    for sign in ("", " ", ".", "0", "1", "7", "-", "\n", "x"):
                        for other in (text[:at] + sign + text[at:], text[:at] + sign + text[at + 1:]):
                            found = read_shown(grid, other)
                            if found is None:
                                self.assertNotIn(other, right)
                            else:
                                self.assertEqual(shown(grid, found), other)


class LotsShownTest(unittest.TestCase):
    def test_shown(self):
        self.assertEqual(lots_shown((1, 1), ()), ".")
        self.assertEqual(lots_shown((2, 2), ()), "..\n..")
        self.assertEqual(lots_shown((2, 3), ((5, 0), (1,), (2, 3))), "abc\nc.a")
        self.assertEqual(lots_shown((1, 3), ((2,), (0,))), "b.a")
        self.assertEqual(lots_shown((16, 1), tuple((cell,) for cell in range(16))), "\n".join("abcdefghijklmnop"))

    def test_there_and_back(self):
        dice = random.Random(306)
        for grid in GRIDS:
            cells = list(range(grid[0] * grid[1]))
            for _ in range(25):
                dice.shuffle(cells)
                many = dice.randint(0, len(cells))
                owners = [dice.randrange(many + 1) for _ in cells]
                lots = tuple(tuple(cell for cell, owner in zip(cells, owners) if owner == k) for k in range(1, many + 1))
                lots = tuple(lot for lot in lots if lot)
                text = lots_shown(grid, lots)
                self.assertEqual(read_lots(grid, text), tuple(tuple(sorted(lot)) for lot in lots))
                for other in GRIDS:
                    if other != grid:
                        self.assertIsNone(read_lots(other, text))

    def test_what_is_no_such_text(self):
        for text in (
            "", "a", "ab", "ab\n", "ab\n.", "ab\n.a\n", "\nab\n.a", "ab\n.a.", "ab\n a", "a b\n. a", "ac\n.a", "b.\n..", "bc\n..", "aA\n..", "a1\n..",
            "ab.a", "a\nb\n.\na", "ab\n-a", "ab\n.{", "ab\n.`", "a_\n..", "ab\n\n.a", "ab\r\n.a", "  \n  ", "ab\n.\ta", "z.\n..", "az\n..",
        ):
            self.assertIsNone(read_lots((2, 2), text), text)
        for value in made.STRANGE + made.DEEP + (["ab", ".a"], ("ab\n.a",), 0, b"..\n.."):
            self.assertIsNone(read_lots((2, 2), value), value)
        self.assertIsNone(read_lots((1, 1), None))
        self.assertEqual(read_lots((1, 1), "a"), ((0,),))
        self.assertEqual(read_lots((1, 1), "."), ())

    def test_any_letter_may_stand_first(self):
        self.assertEqual(read_lots((2, 2), "cb\na."), ((2,), (1,), (0,)))
        self.assertEqual(read_lots((1, 4), ".baa"), ((2, 3), (1,)))

    def test_each_text_of_four_signs(self):
        for signs in product("abc.dz\n ", repeat=4):
            text = "".join(signs)
            letters = {sign for sign in text if sign != "."}
            right = letters == set("abcd"[:len(letters)])
            self.assertEqual(read_lots((1, 4), text) is not None, right, text)
            if right:
                self.assertEqual(lots_shown((1, 4), read_lots((1, 4), text)), text)


if __name__ == "__main__":
    unittest.main()
