"""Grids, and the puzzles that are built on them: [11.1] and [11.2]."""

import unittest
from itertools import product

from toldreasons.answers import answers
from toldreasons.kinds import (
    box_lots, boxed, cell_at, cells_about, column_cells, mined, painted, place_of, roaded, row_cells, side_ties, signed, squares,
    summed,
)
from toldreasons.puzzles import is_answer, is_puzzle

GRIDS = [(height, width) for height in range(1, 17) for width in range(1, 17) if height * width <= 16]


class CellsTest(unittest.TestCase):
    def test_places(self):
        for grid in GRIDS:
            cells = [(r, c) for r in range(grid[0]) for c in range(grid[1])]
            self.assertEqual([cell_at(grid, r, c) for r, c in cells], list(range(grid[0] * grid[1])))
            self.assertEqual([place_of(grid, cell) for cell in range(len(cells))], cells)
        self.assertEqual((cell_at((3, 5), 2, 1), place_of((3, 5), 11)), (11, (2, 1)))

    def test_rows_and_columns(self):
        for height, width in GRIDS:
            for r in range(height):
                self.assertEqual(row_cells((height, width), r), tuple(r * width + c for c in range(width)))
            for c in range(width):
                self.assertEqual(column_cells((height, width), c), tuple(r * width + c for r in range(height)))
        self.assertEqual((row_cells((2, 3), 1), column_cells((2, 3), 2)), ((3, 4, 5), (2, 5)))
        self.assertEqual((row_cells((1, 1), 0), column_cells((1, 1), 0)), ((0,), (0,)))

    def test_boxes(self):
        self.assertEqual(box_lots((2, 2), 1, 1), ((0,), (1,), (2,), (3,)))
        self.assertEqual(box_lots((2, 3), 2, 3), ((0, 1, 2, 3, 4, 5),))
        self.assertEqual(box_lots((4, 4), 2, 2), ((0, 1, 4, 5), (2, 3, 6, 7), (8, 9, 12, 13), (10, 11, 14, 15)))
        self.assertEqual(box_lots((4, 3), 2, 1), ((0, 3), (1, 4), (2, 5), (6, 9), (7, 10), (8, 11)))
        self.assertEqual(box_lots((1, 4), 1, 2), ((0, 1), (2, 3)))
        for height, width in GRIDS:
            for tall in (t for t in range(1, height + 1) if height % t == 0):
                for wide in (w for w in range(1, width + 1) if width % w == 0):
                    lots = box_lots((height, width), tall, wide)
                    boxes = {}
                    for r, c in product(range(height), range(width)):
                        boxes.setdefault((r // tall, c // wide), []).append(r * width + c)
                    self.assertEqual(lots, tuple(sorted(tuple(lot) for lot in boxes.values())))

    def test_sides_and_corners(self):
        self.assertEqual(side_ties((1, 1)), ())
        self.assertEqual(side_ties((1, 3)), ((0, 1), (1, 2)))
        self.assertEqual(side_ties((3, 1)), ((0, 1), (1, 2)))
        self.assertEqual(side_ties((2, 3)), ((0, 1), (0, 3), (1, 2), (1, 4), (2, 5), (3, 4), (4, 5)))
        self.assertEqual(cells_about((3, 3), 4), (0, 1, 2, 3, 5, 6, 7, 8))
        self.assertEqual(cells_about((3, 3), 0), (1, 3, 4))
        self.assertEqual(cells_about((3, 3), 8), (4, 5, 7))
        self.assertEqual(cells_about((3, 3), 5), (1, 2, 4, 7, 8))
        self.assertEqual(cells_about((3, 4), 4), (0, 1, 5, 8, 9))
        self.assertEqual(cells_about((1, 1), 0), ())
        self.assertEqual((cells_about((1, 4), 1), cells_about((4, 1), 3)), ((0, 2), (2,)))
        for grid in GRIDS:
            many = range(grid[0] * grid[1])
            near = {(i, j): tuple(abs(a - b) for a, b in zip(divmod(i, grid[1]), divmod(j, grid[1]))) for i in many for j in many}
            self.assertEqual(side_ties(grid), tuple(sorted((i, j) for i, j in near if i < j and near[i, j] in ((0, 1), (1, 0)))))
            for i in many:
                about = tuple(j for j in many if near[i, j] in ((0, 1), (1, 0), (1, 1)))
                self.assertEqual(cells_about(grid, i), about)


class BuiltTest(unittest.TestCase):
    def test_squares(self):
        self.assertEqual(squares(1), (((1,),), (("unlike", (0,)), ("unlike", (0,)))))
        self.assertEqual(squares(3), (((1, 2, 3),) * 9, (
            ("unlike", (0, 1, 2)), ("unlike", (3, 4, 5)), ("unlike", (6, 7, 8)),
            ("unlike", (0, 3, 6)), ("unlike", (1, 4, 7)), ("unlike", (2, 5, 8)),
        )))
        self.assertEqual([len(answers(squares(size))) for size in (1, 2, 3)], [1, 2, 12])
        self.assertEqual((squares(4)[0], len(squares(4)[1])), (((1, 2, 3, 4),) * 16, 8))

    def test_boxed(self):
        self.assertEqual(boxed(1, 1), (((1,),), (("unlike", (0,)),) * 3))
        self.assertEqual(boxed(2, 1), (squares(2)[0], squares(2)[1] + (("unlike", (0, 2)), ("unlike", (1, 3)))))
        self.assertEqual(boxed(1, 3)[1][6:], (("unlike", (0, 1, 2)), ("unlike", (3, 4, 5)), ("unlike", (6, 7, 8))))
        self.assertEqual(boxed(2, 2)[1], squares(4)[1] + (
            ("unlike", (0, 1, 4, 5)), ("unlike", (2, 3, 6, 7)), ("unlike", (8, 9, 12, 13)), ("unlike", (10, 11, 14, 15)),
        ))

    def test_signed(self):
        self.assertEqual(signed(3, ()), squares(3))
        self.assertEqual(signed(2, ((3, 1), (0, 1), (3, 1))), (
            squares(2)[0], squares(2)[1] + (("below", 3, 1), ("below", 0, 1), ("below", 3, 1)),
        ))

    def test_summed(self):
        self.assertEqual(summed((2, 2), 9, ()), ((tuple(range(1, 10)),) * 4, ()))
        self.assertEqual(summed((2, 2), 1, (((3, 0), 2),)), (((1,),) * 4, (("unlike", (3, 0)), ("sum", (3, 0), 2, 2))))
        self.assertEqual(summed((1, 3), 2, (((2,), 0), ((1, 0), 999))), (
            ((1, 2),) * 3, (("unlike", (2,)), ("sum", (2,), 0, 0), ("unlike", (1, 0)), ("sum", (1, 0), 999, 999)),
        ))

    def test_painted(self):
        self.assertEqual(painted((2, 1), ((), (1,)), ((3, 1),)), (
            ((0, 1), (0, 1)), (("runs", (0,), ()), ("runs", (1,), (1,)), ("runs", (0, 1), (3, 1))),
        ))
        self.assertEqual(painted((2, 3), ((1, 1), ()), ((1,), (), (1,)))[1], (
            ("runs", (0, 1, 2), (1, 1)), ("runs", (3, 4, 5), ()), ("runs", (0, 3), (1,)), ("runs", (1, 4), ()), ("runs", (2, 5), (1,)),
        ))

    def test_mined(self):
        self.assertEqual(mined((2, 2), ()), (((0, 1),) * 4, ()))
        self.assertEqual(mined((2, 2), ((1, 2), (3, 0))), (
            ((0, 1), (0,), (0, 1), (0,)), (("count", (0, 2, 3), (1,), 2, 2), ("count", (0, 1, 2), (1,), 0, 0)),
        ))
        self.assertEqual(mined((1, 1), ((0, 7),)), (((0,),), ()))
        self.assertEqual(mined((1, 1), ()), (((0, 1),), ()))
        self.assertEqual(mined((1, 2), ((0, 999), (1, 0)))[1], (("count", (1,), (1,), 999, 999), ("count", (0,), (1,), 0, 0)))

    def test_roaded(self):
        self.assertEqual(roaded((1, 1), (1,), (0,)), (
            ((0, 1),), (("count", (0,), (1,), 1, 1), ("count", (0,), (1,), 0, 0), ("joined", (0,), (), (1,))),
        ))
        self.assertEqual(roaded((2, 2), (1, 2), (0, 3)), (((0, 1),) * 4, (
            ("count", (0, 1), (1,), 1, 1), ("count", (2, 3), (1,), 2, 2), ("count", (0, 2), (1,), 0, 0), ("count", (1, 3), (1,), 3, 3),
            ("joined", (0, 1, 2, 3), ((0, 1), (0, 2), (1, 3), (2, 3)), (1,)),
        )))

    def test_a_road_of_sixteen_cells_is_judged(self):
        ring = (1, 1, 1, 1, 1, 0, 0, 1, 1, 0, 0, 1, 1, 1, 1, 1)
        parted = (1, 1, 1, 1, 0, 0, 0, 0, 1, 0, 0, 1, 1, 1, 1, 1)
        puzzle = roaded((4, 4), (4, 2, 2, 4), (4, 2, 2, 4))
        self.assertTrue(is_puzzle(puzzle))
        self.assertTrue(is_answer(puzzle, ring))
        self.assertFalse(is_answer(puzzle, parted))
        self.assertFalse(is_answer(roaded((4, 4), (4, 0, 2, 4), (3, 2, 2, 3)), parted))

    def test_all_are_puzzles(self):
        for height, width in GRIDS:
            grid, many = (height, width), height * width
            for puzzle in (
                summed(grid, 9, ((tuple(range(many)), 45),)), painted(grid, ((1,),) * height, ((),) * width),
                mined(grid, tuple((cell, 1) for cell in range(0, many, 2))), roaded(grid, (1,) * height, (0,) * width),
            ):
                self.assertTrue(is_puzzle(puzzle), puzzle)
                self.assertEqual(len(puzzle[0]), many)
        for size in (1, 2, 3, 4):
            self.assertTrue(is_puzzle(squares(size)))
            self.assertTrue(is_puzzle(signed(size, side_ties((size, size)))))
        for tall, wide in ((1, 1), (1, 2), (2, 1), (1, 3), (3, 1), (2, 2), (1, 4), (4, 1)):
            self.assertTrue(is_puzzle(boxed(tall, wide)))


if __name__ == "__main__":
    unittest.main()
