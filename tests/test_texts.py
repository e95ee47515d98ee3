"""Puzzles and rules as texts ([2.1], [2.2]), and grids ([2.3])."""

import random
import unittest

import language
import made
from toldreasons.errors import BadText
from toldreasons.texts import grid_text, puzzle_text, read_grid, read_puzzle, read_rule, rule_text

SIGNS = " \n-,.0123459acefijlmnorstuwx\tC~"

RULES = {
    ("table", (1, 0), ((1, 2), (2, 1))): "table 1 0 rows 1 2, 2 1",
    ("table", (1,), ((0,), (10,), (99,))): "table 1 rows 0, 10, 99",
    ("table", (3, 12), ()): "table 3 12 rows -",
    ("unlike", (2, 0, 1)): "unlike 2 0 1",
    ("unlike", (0,)): "unlike 0",
    ("sum", (2, 0), 3, 15): "sum 2 0 from 3 to 15",
    ("sum", (0,), 0, 999999999): "sum 0 from 0 to 999999999",
    ("count", (3, 1), (1, 5), 0, 2): "count 3 1 of 1 5 from 0 to 2",
    ("count", (0,), (), 10, 20): "count 0 of - from 10 to 20",
    ("below", 0, 11): "below 0 11",
    ("runs", (0, 1, 2), (2, 10)): "runs 0 1 2 of 2 10",
    ("runs", (0, 1), ()): "runs 0 1 of -",
    ("joined", (2, 0, 1), ((0, 1), (1, 12)), (1, 2)): "joined 2 0 1 ties 0-1 1-12 of 1 2",
    ("joined", (0, 1), (), (7,)): "joined 0 1 ties - of 7",
    ("joined", (0, 1), ((0, 1),), ()): "joined 0 1 ties 0-1 of -",
    ("joined", (5,), (), ()): "joined 5 ties - of -",
}

TEXT = "cell 1 2\ncell -\ncell 0 10 99\nunlike 0 1\nruns 0 1 of -\nbelow 2 0"


def place_of(read, value):
    """The place of the error that reading raises, None if there is none."""
    try:
        read(value)
    except BadText as error:
        return error.place
    return None


def spoiled(text):
    """The text cut short, and with a sign put in, left out, exchanged, at each place."""
    for at in range(len(text) + 1):
        yield text[:at]
        for sign in SIGNS:
            yield text[:at] + sign + text[at:]
            yield text[:at] + sign + text[at + 1:]
        yield text[:at] + text[at + 1:]
        yield text[:at] + text[at:at + 1] * 2 + text[at + 1:]


class ReadingTest(unittest.TestCase):
    def assert_reads(self, read, write, place, text):
        """That it is read exactly if it is of the language, and is the one text of what is read."""
        expected = place(text)
        self.assertEqual(place_of(read, text), expected, repr(text))
        if expected is None:
            self.assertEqual(write(read(text)), text)
            self.assertEqual(read(write(read(text))), read(text))

    def assert_place(self, read, places):
        for text, place in places.items():
            self.assertEqual(place_of(read, text), place, repr(text))


class RuleTextTest(ReadingTest):
    def test_each_kind(self):
        for rule, text in RULES.items():
            self.assertEqual(rule_text(rule), text)
            self.assertEqual(read_rule(text), rule)

    def test_what_need_not_be_a_rule_is_read(self):
        for text, rule in {
            "below 3 3": ("below", 3, 3),
            "below 123456789 0": ("below", 123456789, 0),
            "unlike 5 5 1": ("unlike", (5, 5, 1)),
            "sum 0 from 9 to 1": ("sum", (0,), 9, 1),
            "runs 0 of 0 0": ("runs", (0,), (0, 0)),
            "table 0 1 rows 3, 1 2 3, 1": ("table", (0, 1), ((3,), (1, 2, 3), (1,))),
            "count 20 of 500 5 from 3 to 2": ("count", (20,), (500, 5), 3, 2),
            "joined 0 ties 7-3 3-3 of 2 2": ("joined", (0,), ((7, 3), (3, 3)), (2, 2)),
        }.items():
            self.assertEqual(read_rule(text), rule)
            self.assertEqual(rule_text(rule), text)

    def test_places(self):
        self.assert_place(read_rule, {
            "": 0, "x": 0, " unlike 0": 0, "c": 1, "cell 1": 1, "unlike": 6, "unlike ": 7, "unlike -": 7, "unlike 0 ": 9,
            "unlike 0  1": 9, "unlike 00": 8, "unlike 01": 8, "unlike 1234567890": 16, "unlike 0\n": 8, "unlike 0,": 8,
            "sum 0 1 to 3": 8, "sum 0 from 1": 12, "sum 0 from - to 3": 11, "sum from 1 to 2": 4, "sum 0 from 1 to 2 ": 17,
            "below 1": 7, "below 1 2 3": 9, "below - 2": 6, "count 0 from 1 to 2": 8, "count 0 of -1 from 0 to 2": 12,
            "count 0 of - 1": 13, "table 0 rows ": 13, "table 0 rows 1,2": 15, "table 0 rows 1, ": 16, "table 0 rows -, 1": 14,
            "table 0 rows 1 , 2": 15, "runs 0 of": 9, "runs 0 of - ": 11, "joined 0 ties 0 of 1": 15, "joined 0 ties 0-1-2": 17,
            "joined 0 ties - 1-2": 16, "joined 0 of 1": 9, "joined 0 ties 0-1 of": 20, "joined 0 ties 0-1 ": 18,
            "joined 0 ties 0 -1": 15, "joined 0 ties -1 of 2": 15, "Unlike 0": 0, "unlike\t0": 6, "unlike +1": 7,
        })

    def test_spoiled_texts(self):
        for text in RULES.values():
            for wrong in spoiled(text):
                self.assert_reads(read_rule, rule_text, language.RULE.place, wrong)

    def test_no_texts(self):
        for value in made.STRANGE + made.DEEP + (["unlike 0"], ("unlike 0",), {"unlike 0": 1}):
            place = language.RULE.place(value) if isinstance(value, str) else 0
            self.assertEqual(place_of(read_rule, value), place, value)


class PuzzleTextTest(ReadingTest):
    def test_written(self):
        self.assertEqual(puzzle_text((((0, 10), (), (99,)), tuple(RULES))),
                         "\n".join(["cell 0 10", "cell -", "cell 99"] + list(RULES.values())))
        self.assertEqual(puzzle_text(made.BARE), "cell 4\ncell 2 7")
        self.assertEqual(puzzle_text((((),), ())), "cell -")

    def test_what_was_written_is_read_again(self):
        for puzzle in made.PUZZLES + tuple(made.made_puzzles(3, 200, most_cells=6, most_rules=9)):
            self.assertEqual(read_puzzle(puzzle_text(puzzle)), puzzle)
            for rule in puzzle[1]:
                self.assertEqual(read_rule(rule_text(rule)), rule)

    def test_what_need_not_be_a_puzzle_is_read(self):
        self.assertEqual(read_puzzle("cell 2 1\ncell 123456789 5 5\nunlike 7 7"),
                         (((2, 1), (123456789, 5, 5)), (("unlike", (7, 7)),)))
        self.assertEqual(read_puzzle("\n".join(["cell 1"] * 50 + ["below 1 1"] * 100)),
                         (((1,),) * 50, (("below", 1, 1),) * 100))

    def test_places(self):
        self.assert_place(read_puzzle, {
            "": 0, "\n": 0, "cell": 4, "cell ": 5, "cell  1": 5, "cell 1 ": 7, "cell 1  2": 7, " cell 1": 0, "cell 1\n": 7,
            "\ncell 1": 0, "cell 1\n\ncell 2": 7, "cell 1\n\n": 7, "cell 1\nunlike 0\n": 16, "cell 1\nunlike 0\ncell 1": 17,
            "unlike 0": 0, "cell 1\nunlike 0\n\nunlike 0": 16, "cell 01": 6, "cell 00": 6, "cell 1234567890": 14, "cell -1": 6,
            "cell - 1": 6, "cell 1 -": 7, "cell 1\ncount": 12, "cell 1\nc": 8, "cell 1\nunlike 0\nc": 17, "cell 1\r\ncell 1": 6,
            "cell 1\ncell": 11, "cell 1,": 6, "cell 1\nrows 1": 8,
        })

    def test_spoiled_texts(self):
        long = "\n".join(["cell 0 10", "cell -", *list(RULES.values())[::3]])
        for text in (TEXT, "cell 1", long):
            for wrong in spoiled(text):
                self.assert_reads(read_puzzle, puzzle_text, language.PUZZLE.place, wrong)

    def test_lines_put_in_and_left_out(self):
        lines = TEXT.split("\n")
        for at in range(len(lines) + 1):
            for line in ["", "cell 5", "cell -", "below 0 1", "cell"]:
                text = "\n".join(lines[:at] + [line] + lines[at:])
                self.assert_reads(read_puzzle, puzzle_text, language.PUZZLE.place, text)

    def test_no_texts(self):
        for value in made.STRANGE + made.DEEP + (["cell 1"], ("cell 1",), {"cell 1": 1}):
            place = language.PUZZLE.place(value) if isinstance(value, str) else 0
            self.assertEqual(place_of(read_puzzle, value), place, value)

    def test_long_texts(self):
        cells = "\n".join(["cell 1"] * 600)
        rules = "\n".join(["unlike " + " ".join(["0"] * 1000)] * 2)
        self.assertEqual(puzzle_text(read_puzzle(f"{cells}\n{rules}")), f"{cells}\n{rules}")
        self.assertEqual(place_of(read_puzzle, f"{cells}\n{rules}x"), len(cells) + len(rules) + 1)


class GridTest(ReadingTest):
    def write(self, grid):
        n, width, part = grid
        self.assertIs(type(part), tuple)
        return grid_text(n, width, part)

    def test_written(self):
        self.assertEqual(grid_text(1, 1, ()), ".")
        self.assertEqual(grid_text(4, 2, ((0, 0), (3, 99))), "0 .\n. 99")
        self.assertEqual(grid_text(5, 3, ((4, 7),)), ". . .\n. 7")
        self.assertEqual(grid_text(3, 9, ((1, 999999999),)), ". 999999999 .")
        self.assertEqual(grid_text(3, 1, ((1, 5),)), ".\n5\n.")
        self.assertEqual(grid_text(16, 5, ()), "\n".join([". . . . ."] * 3 + ["."]))

    def test_written_is_read_again(self):
        dice = random.Random(4)
        for n in range(1, 17):
            for width in range(1, 19):
                part = tuple((c, dice.choice((0, 1, 42, 10 ** 9 - 1))) for c in range(n) if dice.random() < 0.5)
                self.assertEqual(read_grid(grid_text(n, width, part)), (n, min(n, width), part))

    def test_places(self):
        self.assert_place(read_grid, {
            "": 0, "x": 0, ". ": 2, ".\n": 2, " .": 0, "\n.": 0, ".  .": 2, ".\n\n.": 2, ". .\n. . .": 7, ". .\n.\n. .": 5,
            ". .\n.\n": 5, "..": 1, "1.": 1, "01": 1, "00": 1, "1234567890": 9, "-1": 0, ". .\n. ": 6, ". .\n. .\n": 8,
            "1 2\n3 4\n5 6 7": 11, ".\n. .": 3, ".\t.": 1, ". .\n.  .": 6, "1 2 3\n4 5\n6": 9,
        })

    def test_there_are_no_other_bounds(self):
        text = "\n".join([". 5 999999999"] * 40 + ["0"])
        n, width, part = read_grid(text)
        self.assertEqual((n, width, len(part)), (121, 3, 81))
        self.assertEqual(part[-1], (120, 0))
        self.assertEqual(read_grid(" ".join(["7"] * 300)), (300, 300, tuple((c, 7) for c in range(300))))

    def test_spoiled_texts(self):
        for text in (".", "3", "7 .\n. 12\n.", "1 2 3\n. . .\n10 .", "1\n.\n20", ". 0 5 .", "1 2\n3 4"):
            for wrong in spoiled(text):
                self.assert_reads(read_grid, self.write, language.grid_place, wrong)

    def test_no_texts(self):
        for value in made.STRANGE + made.DEEP + (["."], (".",), {".": "."}):
            place = language.grid_place(value) if isinstance(value, str) else 0
            self.assertEqual(place_of(read_grid, value), place, value)


if __name__ == "__main__":
    unittest.main()
