"""Books ([5.1], [5.2])."""

import random
import unittest

import made
import oracle
from cases import FOUR, ROUNDS, ROW
from toldreasons.books import book_of, both_books, greatest_book, judge_book
from toldreasons.reasons import clashes


def closed(parts, k):
    """The ascending tuple of the parts and of all that lie in them."""
    return tuple(sorted({piece for part in parts for piece in oracle.pieces(part, k)}))


class JudgeBookTest(unittest.TestCase):
    def test_none_is_a_book(self):
        for puzzle in made.PUZZLES:
            self.assertIsNone(judge_book(puzzle, 2, ()))

    def test_form(self):
        for value in (None, True, [], "", 0, {}, [()], ((), ()), (((0, 0),), ()), ((), ((1, 1),), ((0, 0),)),
                      ((), ((0, 0), (1, 1))), ((), ((0, 2),)), ((), ((0, False),)), ((), [(0, 0)]), ((), ([0, 0],)),
                      ((), None), (None,), ((), ((0, 0),), ((0, 0),)), (0,), ((), ((1, 1), (0, 0))), ((), ((2, 0),))):
            self.assertEqual(judge_book(made.PAIR, 1, value), ("form",), value)

    def test_form_goes_ahead(self):
        self.assertEqual(judge_book(made.PAIR, 2, (((0, 0),), ((1, 1),), ((1, 0),))), ("form",))
        self.assertEqual(judge_book(made.PAIR, 1, ((), None)), ("form",))

    def test_within(self):
        self.assertEqual(judge_book(made.PAIR, 1, (((0, 0),),)), ("within", ((0, 0),), ()))
        whole = ((0, 0), (1, 1))
        self.assertEqual(judge_book(made.PAIR, 2, ((), whole)), ("within", whole, ((0, 0),)))
        self.assertEqual(judge_book(made.PAIR, 2, ((), ((0, 0),), whole)), ("within", whole, ((1, 1),)))
        self.assertEqual(judge_book(made.PAIR, 2, (((0, 0),), whole, ((1, 1),))), ("within", ((0, 0),), ()))
        self.assertEqual(judge_book(made.PAIR, 2, ((), whole, ((1, 0),), ((1, 1),))), ("within", whole, ((0, 0),)))

    def test_within_goes_by_pythons_order_not_by_size(self):
        domains = (((1, 2),) * 3, ())
        part = ((0, 1), (1, 1), (2, 1))
        self.assertEqual(judge_book(domains, 3, ((), ((0, 1),), part, ((2, 1),))), ("within", part, ((0, 1), (1, 1))))
        late = tuple(piece for piece in closed([part], 3) if piece not in (((1, 1), (2, 1)), ((2, 1),)))
        self.assertEqual(judge_book(domains, 3, late), ("within", ((0, 1), (1, 1), (2, 1)), ((1, 1), (2, 1))))

    def test_within_goes_ahead_of_all_questions(self):
        bad = ((), ((0, 1),), ((0, 1), (1, 1)))
        self.assertEqual(judge_book(made.PAIR, 2, bad), ("within", ((0, 1), (1, 1)), ((1, 1),)))
        self.assertEqual(judge_book(made.PAIR, 2, closed(bad, 2)), ("question", (), ("rule", 0)))

    def test_question(self):
        self.assertEqual(judge_book(made.PAIR, 1, ((),)), ("question", (), ("cell", 0)))
        self.assertEqual(judge_book(made.PAIR, 1, ((), ((0, 0),))), ("question", (), ("cell", 1)))
        self.assertEqual(judge_book(made.PAIR, 1, ((), ((0, 0),), ((0, 1),), ((1, 1),))), ("question", ((0, 1),), ("rule", 0)))
        self.assertEqual(judge_book(made.PAIR, 1, ((), ((0, 0),), ((1, 0),), ((1, 1),))), ("question", ((1, 0),), ("rule", 0)))
        self.assertEqual(judge_book(made.PAIR, 2, ((), ((0, 0),), ((1, 1),))), ("question", (), ("rule", 0)))
        self.assertIsNone(judge_book(made.PAIR, 2, ((), ((0, 0),), ((0, 0), (1, 1)), ((1, 1),))))
        self.assertEqual(judge_book(made.EMPTY, 1, ((),)), ("question", (), ("cell", 0)))
        self.assertEqual(judge_book((((1,), ()), ()), 1, ((), ((0, 1),))), ("question", (), ("cell", 1)))

    def test_least_part_of_a_question(self):
        free = (((1, 2),) * 3, ())
        book = closed([((0, 1), (1, 1)), ((1, 1), (2, 1)), ((0, 1), (2, 1)), ((0, 2), (1, 2))], 2)
        self.assertEqual(judge_book(free, 2, book), ("question", ((0, 2),), ("cell", 2)))

    def test_any_value(self):
        for puzzle in made.PUZZLES:
            for value in made.STRANGE + made.DEEP:
                for k in (1, 2):
                    self.assertEqual(judge_book(puzzle, k, value), oracle.judge_book(puzzle, k, value), value)
                    self.assertEqual(judge_book(puzzle, k, (value,)), oracle.judge_book(puzzle, k, (value,)), value)

    def test_small_changes(self):
        dice = random.Random(12)
        for puzzle, k, rounds in ROUNDS:
            book = greatest_book(puzzle, k)
            values = made.some(made.changed(book), 15, dice)
            for _ in range(10):
                kept = {part: dice.random() < 0.9 for part in book}
                values.append(tuple(part for part in book if kept[part]))
                values.append(tuple(part for part in book if all(kept[piece] for piece in oracle.pieces(part, k))))
            values.append(oracle.parts(puzzle, k))
            for value in values:
                self.assertEqual(judge_book(puzzle, k, value), oracle.judge_book(puzzle, k, value), (puzzle, k, value))


class BooksTest(unittest.TestCase):
    def test_greatest_book(self):
        self.assertEqual(greatest_book(made.PAIR, 1), ((), ((0, 0),), ((1, 1),)))
        self.assertEqual(greatest_book(made.TRIO, 2), ())
        self.assertEqual(greatest_book(made.EMPTY, 2), ())
        self.assertEqual(greatest_book(ROW, 1), ((), ((0, 0),), ((1, 1),), ((2, 2),)))
        self.assertEqual(greatest_book((((3, 4),), ()), 3), ((), ((0, 3),), ((0, 4),)))

    def test_just_the_parts_that_are_no_no_goods(self):
        for puzzle, k, rounds in ROUNDS:
            book = greatest_book(puzzle, k)
            self.assertEqual(book, tuple(part for part in oracle.parts(puzzle, k) if part not in rounds))
            self.assertIsNone(judge_book(puzzle, k, book))
            self.assertIsNone(oracle.judge_book(puzzle, k, book))

    def test_just_one_of_both(self):
        for puzzle, k, rounds in ROUNDS:
            self.assertIsNot(clashes(puzzle, k), () in greatest_book(puzzle, k))
        for k in (1, 2, 3):
            self.assertIs(clashes(FOUR, k), k > 1)
            self.assertIs(() in greatest_book(FOUR, k), k == 1)

    def test_each_book_lies_in_the_greatest(self):
        dice = random.Random(13)
        for puzzle, k, rounds in ROUNDS:
            greatest = greatest_book(puzzle, k)
            for _ in range(20):
                taken = closed(made.some(oracle.parts(puzzle, k), dice.randint(1, 4), dice), k)
                if oracle.judge_book(puzzle, k, taken) is None:
                    self.assertLessEqual(set(taken), set(greatest))
                else:
                    self.assertIsNotNone(judge_book(puzzle, k, taken))

    def test_book_of(self):
        self.assertEqual(book_of(made.PAIR, 1, [(0, 1)]), ((), ((0, 0),), ((1, 1),)))
        self.assertEqual(book_of(made.PAIR, 2, ((0, 1),)), ((), ((0, 0),), ((0, 0), (1, 1)), ((1, 1),)))
        self.assertEqual(book_of(made.PAIR, 1, []), ())
        self.assertEqual(book_of(made.TRIO, 2, []), ())
        self.assertEqual(book_of(made.FREE, 1, [(2, 1), (1, 2)]), ((), ((0, 1),), ((0, 2),), ((1, 1),), ((1, 2),)))

    def test_book_of_answers_is_a_book(self):
        for puzzle, k, rounds in ROUNDS:
            found = oracle.answers(puzzle)
            for answers in ([], list(found), list(found[:1]), list(found[-2:])):
                book = book_of(puzzle, k, answers)
                wanted = [tuple(enumerate(values)) for values in answers]
                self.assertEqual(book, closed(wanted, k))
                self.assertIsNone(judge_book(puzzle, k, book))
                self.assertLessEqual(set(book), set(greatest_book(puzzle, k)))

    def test_both_books(self):
        one = book_of(made.FREE, 2, [(1, 2)])
        other = book_of(made.FREE, 2, [(2, 1)])
        self.assertEqual(both_books(one, other), book_of(made.FREE, 2, [(1, 2), (2, 1)]))
        self.assertEqual(both_books((), ()), ())
        self.assertEqual(both_books(one, ()), one)
        for puzzle, k, rounds in ROUNDS:
            found = oracle.answers(puzzle)
            if len(found) > 1:
                both = both_books(book_of(puzzle, k, found[:1]), book_of(puzzle, k, found[-1:]))
                self.assertEqual(both, book_of(puzzle, k, [found[0], found[-1]]))
                self.assertIsNone(judge_book(puzzle, k, both))


if __name__ == "__main__":
    unittest.main()
