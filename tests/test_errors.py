"""The errors of the interface."""

import unittest

import made
from toldreasons import errors

TELLING = (("BadText", "place"), ("BadPuzzle", "word"), ("BadPaper", "word"))
PLAIN = ("NoAnswer", "TooMany", "BadDeed", "NoReason", "IsLost", "NothingDone")


class ErrorsTest(unittest.TestCase):
    def test_all_stand_directly_beneath_puzzle_error(self):
        self.assertEqual(errors.PuzzleError.__bases__, (ValueError,))
        for name in [name for name, told in TELLING] + list(PLAIN):
            self.assertEqual(getattr(errors, name).__bases__, (errors.PuzzleError,), name)
            self.assertEqual(getattr(errors, name).__module__, "toldreasons.errors")

    def test_plain_ones_tell_nothing(self):
        for name in PLAIN:
            with self.assertRaises(errors.PuzzleError):
                raise getattr(errors, name)()

    def test_what_is_told_stands_under_its_name(self):
        for name, told in TELLING:
            for value in made.STRANGE + made.DEEP:
                error = getattr(errors, name)(value)
                self.assertEqual(getattr(error, told), value)
                self.assertIs(type(getattr(error, told)), type(value))

    def test_what_is_told_stays_what_it_was(self):
        for name, told in TELLING:
            inner, table = [1], {"a": 2}
            value = [inner, (table, [inner], ({(0, 1): [table]},)), {"k": (inner,), 3: {4: inner}}]
            error = getattr(errors, name)(value)
            kept = [[1], ({"a": 2}, [[1]], ({(0, 1): [{"a": 2}]},)), {"k": ([1],), 3: {4: [1]}}]
            inner.append(9)
            table["b"] = 3
            value[1][1].append(7)
            value[2][3][5] = 6
            value.append(0)
            self.assertEqual(getattr(error, told), kept)

    def test_copies_are_deep_in_every_kind(self):
        for name, told in TELLING:
            last = [1]
            value = last
            for turn in range(18):
                value = [value] if turn % 3 == 0 else (value,) if turn % 3 == 1 else {turn: value}
            error = getattr(errors, name)(value)
            last.append(2)
            kept = getattr(error, told)
            for turn in reversed(range(18)):
                kept = kept[turn] if turn % 3 == 2 else kept[0]
            self.assertEqual(kept, [1])

    def test_true_is_kept_as_true(self):
        self.assertIs(errors.BadText((True, [False])).place[0], True)
        self.assertIs(errors.BadText((True, [False])).place[1][0], False)
        self.assertIs(errors.BadPuzzle({True: 1}).word[1], 1)


if __name__ == "__main__":
    unittest.main()
