"""Trees ([3.3], [3.4])."""

import random
import unittest

import made
import oracle
from toldreasons.trees import judge_tree, leaf_counts, told_answers, tree_depth, tree_of

MADE = made.PUZZLES + tuple(made.made_puzzles(21, 100))
CLASH = (((1, 2), (1, 2)), (("unlike", (0, 1)), ("below", 0, 1), ("sum", (0, 1), 4, 9)))


def any_tree(puzzle, dice, part=()):
    """A tree of the puzzle that asks cells in any sequence, and tells any clash, sooner or later."""
    clashes = [("clash", j) for j in range(len(puzzle[1])) if not oracle.agreeing(puzzle, part, ("rule", j))]
    clashes += [("empty", c) for c, domain in enumerate(puzzle[0]) if domain == ()]
    left = [c for c in range(len(puzzle[0])) if c not in dict(part)]
    if clashes and (not left or dice.random() < 0.6):
        return dice.choice(clashes)
    if not left:
        return ("answer",)
    cell = dice.choice(left)
    trees = [any_tree(puzzle, dice, oracle.both(part, ((cell, value),))) for value in puzzle[0][cell]]
    return ("cell", cell, tuple(trees))


def leaves(tree):
    if tree[0] != "cell":
        return [tree[0]]
    return [leaf for beneath in tree[2] for leaf in leaves(beneath)]


def depth(tree):
    return 1 + max([depth(beneath) for beneath in tree[2]] + [0]) if tree[0] == "cell" else 0


class TreeOfTest(unittest.TestCase):
    def test_node_by_node(self):
        self.assertEqual(tree_of((((4,),), ())), ("cell", 0, (("answer",),)))
        self.assertEqual(tree_of(made.FREE), ("cell", 0, (
            ("cell", 1, (("clash", 0), ("answer",))), ("cell", 1, (("answer",), ("clash", 0))))))
        self.assertEqual(tree_of(made.PAIR), ("cell", 0, (("cell", 1, (("clash", 0), ("answer",))), ("clash", 0))))

    def test_empty_goes_ahead_of_clash(self):
        self.assertEqual(tree_of((((1,), (), ()), (("sum", (0,), 9, 9),))), ("empty", 1))
        self.assertEqual(tree_of((((),), ())), ("empty", 0))
        self.assertEqual(tree_of(made.EMPTY), ("empty", 1))

    def test_first_clash_is_told(self):
        self.assertEqual(tree_of((((1,), (1,)), (("sum", (0,), 0, 5), ("sum", (0,), 9, 9), ("sum", (1,), 9, 9)))),
                         ("clash", 1))
        self.assertEqual(tree_of(CLASH), ("cell", 0, (("clash", 2), ("clash", 1))))

    def test_clash_goes_ahead_of_answer(self):
        self.assertEqual(tree_of((((1,), (2,)), (("below", 1, 0),))), ("clash", 0))
        self.assertEqual(tree_of((((1, 2),), (("sum", (0,), 2, 2),))), ("cell", 0, (("clash", 0), ("answer",))))

    def test_as_the_oracle_tells(self):
        for puzzle in MADE:
            tree = tree_of(puzzle)
            self.assertEqual(tree, oracle.tree_at(puzzle, ()), puzzle)
            self.assertIsNone(judge_tree(puzzle, tree))
            self.assertEqual(told_answers(puzzle, tree), oracle.answers(puzzle))

    def test_ten_thousand_leaves(self):
        ten = tuple(range(10))
        puzzle = ((ten,) * 4, (("sum", (3, 0, 1, 2), 0, 36), ("unlike", (0,))))
        tree = tree_of(puzzle)
        self.assertEqual(leaf_counts(tree), (0, 0, 10000))
        self.assertIsNone(judge_tree(puzzle, tree))
        self.assertEqual(len(told_answers(puzzle, tree)), 10000)


class JudgeTreeTest(unittest.TestCase):
    def test_trees_in_any_sequence(self):
        dice = random.Random(3)
        for puzzle in MADE:
            for _ in range(4):
                self.assertIsNone(judge_tree(puzzle, any_tree(puzzle, dice)))

    def test_a_clash_may_be_told_wherever_it_holds(self):
        for tree in (("cell", 0, (("clash", 2), ("clash", 1))),
                     ("cell", 1, (("clash", 1), ("cell", 0, (("clash", 2), ("clash", 0))))),
                     ("cell", 1, (("clash", 2), ("cell", 0, (("clash", 2), ("clash", 1))))),
                     ("cell", 0, (("cell", 1, (("clash", 0), ("clash", 2))), ("cell", 1, (("clash", 1), ("clash", 0)))))):
            self.assertIsNone(judge_tree(CLASH, tree))

    def test_words_at_the_top(self):
        for value in (None, (), [], "answer", ("answer", 1), ("clash",), ("clash", 2), ("clash", -1), ("clash", True),
                      ("clash", 0, 0), ("empty", 3), ("empty",), ("empty", False), ("cell", 0), ("cell", 3, ()),
                      ("cell", 0, []), ("cell", True, ()), ("cell", -1, ()), ("cell", 0, (), ()), ("other",), (None,),
                      (("answer",),), ["answer"], ("cell", 0, None), ("clash", "0"), ({}, 0), ("empty", None)):
            self.assertEqual(judge_tree(made.TOLD, value), ("form", ()), value)
        self.assertEqual(judge_tree(made.TOLD, ("clash", 1)), ("clash", ()))
        self.assertEqual(judge_tree(made.TOLD, ("empty", 2)), ("empty", ()))
        self.assertEqual(judge_tree(made.TOLD, ("answer",)), ("answer", ()))
        self.assertEqual(judge_tree(made.TOLD, ("cell", 2, (("answer",), ("answer",)))), ("cell", ()))
        self.assertEqual(judge_tree(made.TOLD, ("cell", 0, ())), ("cell", ()))

    def test_words_deep_within(self):
        def within(beneath):
            return ("cell", 1, (("clash", 1), ("cell", 2, (("clash", 0), ("clash", 0), beneath))))
        right = ("cell", 0, (("answer",), ("clash", 1)))
        self.assertIsNone(judge_tree(made.TOLD, within(right)))
        for beneath, word in ((("clash", 1), "clash"), (("empty", 0), "empty"), (("answer",), "answer"), (None, "form"),
                              (("cell", 2, (("answer",),) * 3), "cell"), (("cell", 1, right[2]), "cell"),
                              (("cell", 0, right[2] * 2), "cell"), (("cell", 0, list(right[2])), "form"),
                              (("cell", 0, right[2][:1]), "cell")):
            self.assertEqual(judge_tree(made.TOLD, within(beneath)), (word, (2, 3)), beneath)
        self.assertEqual(judge_tree(made.TOLD, within(("cell", 0, (("answer",), ("answer",))))), ("answer", (2, 3, 2)))
        self.assertEqual(judge_tree(made.TOLD, within(("cell", 0, (("clash", 0), ("answer",))))), ("clash", (2, 3, 1)))

    def test_first_place_is_told(self):
        bad = ("empty", 0)
        tree = ("cell", 0, (("cell", 1, (("clash", 0), bad)), bad))
        self.assertEqual(judge_tree(made.TOLD, tree), ("empty", (1, 2)))
        self.assertEqual(judge_tree(made.TOLD, ("cell", 0, (("cell", 1, (("clash", 0), bad, bad)), None))), ("cell", (1,)))
        self.assertEqual(judge_tree(made.TOLD, ("cell", 0, (("cell", 1, (bad, None)), None))), ("empty", (1, 1)))
        self.assertEqual(judge_tree(made.TOLD, ("cell", 0, (None, bad))), ("form", (1,)))
        self.assertEqual(judge_tree(made.TOLD, ("cell", 0, (None, None, None))), ("cell", ()))

    def test_domains_without_values(self):
        self.assertIsNone(judge_tree(made.EMPTY, ("empty", 1)))
        self.assertIsNone(judge_tree(made.EMPTY, ("cell", 1, ())))
        self.assertIsNone(judge_tree(made.EMPTY, ("clash", 1)))
        self.assertIsNone(judge_tree(made.EMPTY, ("cell", 0, (("empty", 1), ("cell", 1, ())))))
        self.assertEqual(judge_tree(made.EMPTY, ("empty", 0)), ("empty", ()))
        self.assertEqual(judge_tree(made.EMPTY, ("clash", 0)), ("clash", ()))
        self.assertEqual(judge_tree(made.EMPTY, ("cell", 1, (("answer",),))), ("cell", ()))
        wide = ((tuple(range(100)),) * 15 + ((),), (("below", 0, 15),))
        self.assertIsNone(judge_tree(wide, ("clash", 0)))
        self.assertEqual(judge_tree(wide, ("answer",)), ("answer", ()))

    def test_path_tells_values_in_the_sequence_of_the_way(self):
        tree = ("cell", 2, (("clash", 0), ("clash", 0), ("cell", 1, (("clash", 1), ("cell", 0, (("clash", 0), ("clash", 1)))))))
        self.assertEqual(judge_tree(made.TOLD, tree), ("clash", (3, 2, 1)))

    def test_any_value(self):
        for puzzle in MADE[:20]:
            for value in made.STRANGE + made.DEEP:
                self.assertEqual(judge_tree(puzzle, value), oracle.judge_tree(puzzle, value), value)

    def test_small_changes(self):
        dice = random.Random(5)
        for puzzle in MADE[:40]:
            for value in made.some(made.changed(any_tree(puzzle, dice)), 150, dice):
                self.assertEqual(judge_tree(puzzle, value), oracle.judge_tree(puzzle, value), (puzzle, value))


class ToldTest(unittest.TestCase):
    def test_told_answers_of_any_sequence(self):
        dice = random.Random(6)
        for puzzle in MADE:
            for _ in range(4):
                tree = any_tree(puzzle, dice)
                self.assertEqual(told_answers(puzzle, tree), oracle.answers(puzzle))
                counts = tuple(leaves(tree).count(word) for word in ("clash", "empty", "answer"))
                self.assertEqual(leaf_counts(tree), counts)
                self.assertEqual(leaf_counts(tree)[2], len(oracle.answers(puzzle)))
                self.assertEqual(tree_depth(tree), depth(tree))

    def test_ascending_though_asked_from_behind(self):
        tree = ("cell", 1, (("cell", 0, (("clash", 0), ("answer",))), ("cell", 0, (("answer",), ("clash", 0)))))
        self.assertEqual(told_answers(made.FREE, tree), ((1, 2), (2, 1)))

    def test_leaf_counts(self):
        self.assertEqual(leaf_counts(("answer",)), (0, 0, 1))
        self.assertEqual(leaf_counts(("clash", 3)), (1, 0, 0))
        self.assertEqual(leaf_counts(("empty", 3)), (0, 1, 0))
        self.assertEqual(leaf_counts(("cell", 1, ())), (0, 0, 0))
        self.assertEqual(leaf_counts(("cell", 0, (("empty", 1), ("cell", 1, ()), ("clash", 0)))), (1, 1, 0))

    def test_depth(self):
        self.assertEqual(tree_depth(("empty", 0)), 0)
        self.assertEqual(tree_depth(("cell", 1, ())), 1)
        self.assertEqual(tree_depth(("cell", 0, (("empty", 1), ("cell", 1, ())))), 2)
        self.assertEqual(tree_depth(("cell", 0, (("cell", 1, (("clash", 0),)), ("clash", 0)))), 2)
        self.assertEqual(tree_depth(tree_of((((1,),) * 16, ()))), 16)


if __name__ == "__main__":
    unittest.main()
