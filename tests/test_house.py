"""A house: what is done to its board, and what it shows: [14.2] and [14.3]."""

import random
import unittest

import made
from test_marks import all_deeds, boards, puzzles
from toldreasons import marks
from toldreasons.answers import answers
from toldreasons.errors import BadDeed, NothingDone
from toldreasons.house import House
from toldreasons.strength import verdict


def housed(board):
    """A house behind the deeds of a board."""
    house = House(board["puzzle"])
    for deed in board["log"]:
        house.do(deed)
    return house


class DoingTest(unittest.TestCase):
    def test_a_new_house(self):
        for puzzle in made.PUZZLES:
            house = House(puzzle)
            self.assertEqual(house.board(), marks.new_board(puzzle))
            self.assertEqual((house.deeds(), house.standing()), ((), puzzle[0]))

    def test_do_undo_redo(self):
        house = House(made.TOLD)
        self.assertEqual([house.do(("strike", 0, 2)), house.do(("set", 2, 1)), house.do(("raise", 2, 3))], [1, 2, 3])
        self.assertEqual(house.deeds(), (("strike", 0, 2), ("set", 2, 1), ("raise", 2, 3)))
        self.assertEqual([house.undo(), house.undo(), house.redo(), house.undo(), house.undo()], [2, 1, 2, 1, 0])
        self.assertRaises(NothingDone, house.undo)
        self.assertEqual([house.redo(), house.redo(), house.redo()], [1, 2, 3])
        self.assertRaises(NothingDone, house.redo)
        self.assertEqual([house.undo(), house.do(("strike", 2, 1))], [2, 3])
        self.assertRaises(NothingDone, house.redo)
        self.assertEqual(house.standing(), ((1,), (1, 2), ()))

    def test_what_is_no_deed_leaves_all_as_it_is(self):
        house = House(made.TOLD)
        house.do(("strike", 0, 2))
        house.do(("strike", 1, 2))
        house.undo()
        before = house.board()
        for value in made.STRANGE + made.DEEP + (("strike", 0, 2), ("raise", 1, 1), ("set", 0, 1), ("set", 0, True), ["strike", 1, 1], "strike 1 1"):
            self.assertRaises(BadDeed, house.do, value)
            self.assertEqual(house.board(), before)
        self.assertEqual(house.redo(), 2)

    def test_plays_as_boards_do(self):
        dice = random.Random(701)
        for puzzle in puzzles(701, 15) + list(made.PUZZLES):
            house, board = House(puzzle), marks.new_board(puzzle)
            for _ in range(30):
                choice = dice.choice(("do", "do", "do", "undo", "undo", "redo", "hint", "lead"))
                ahead = len(board["log"])
                if choice == "do" and all_deeds(board):
                    deed = dice.choice(all_deeds(board))
                    board = marks.done(board, deed)
                    self.assertEqual(house.do(deed), len(board["log"]))
                elif choice in ("undo", "redo"):
                    if not board["log" if choice == "undo" else "back"]:
                        self.assertRaises(NothingDone, getattr(house, choice))
                    else:
                        board = marks.undone(board) if choice == "undo" else marks.redone(board)
                        self.assertEqual(getattr(house, choice)(), len(board["log"]))
                elif choice in ("hint", "lead") and dice.random() < 0.4:
                    most = dice.randint(1, 2)
                    board = marks.hinted(board, most) if choice == "hint" else marks.led_by_hints(board, most)
                    self.assertEqual(getattr(house, choice)(most), len(board["log"]) - ahead)
                self.assertEqual(house.board(), board)

    def test_hints(self):
        house = House(made.TOLD)
        self.assertEqual(house.hint(1), 1)
        self.assertEqual(len(house.deeds()), 1)
        self.assertEqual((house.lead(1), house.finished(), len(house.deeds())), (3, True, 4))
        self.assertEqual((house.hint(3), house.lead(3)), (0, 0))
        still = House(made.FREE)
        self.assertEqual((still.hint(3), still.lead(3), still.board()), (0, 0, marks.new_board(made.FREE)))
        trio = House(made.TRIO)
        self.assertEqual((trio.lead(1), trio.hint(2), trio.lead(2), trio.standing()), (0, 1, 5, ((), (), ())))

    def test_a_hint_that_does_nothing_keeps_what_can_be_done_again(self):
        house = House(made.FREE)
        house.do(("set", 0, 1))
        house.undo()
        self.assertEqual((house.hint(2), house.lead(2), house.redo()), (0, 0, 1))

    def test_what_is_shown_is_not_shared(self):
        house = House(made.TOLD)
        house.do(("strike", 0, 2))
        board = house.board()
        board["marks"] = ()
        board["log"] = ()
        house.told().clear()
        self.assertEqual((house.standing(), house.deeds(), len(house.told())), (((1,), (1, 2), (1, 2, 3)), (("strike", 0, 2),), 1))


class TwinTest(unittest.TestCase):
    def test_it_stands_alike_and_goes_its_own_way(self):
        house = House(made.TOLD)
        house.do(("strike", 0, 2))
        house.do(("strike", 1, 1))
        house.undo()
        twin = house.twin()
        self.assertIsInstance(twin, House)
        self.assertIsNot(twin, house)
        self.assertEqual(twin.board(), house.board())
        self.assertEqual(twin.redo(), 2)
        self.assertEqual((len(house.deeds()), house.board()["back"]), (1, (("strike", 1, 1),)))
        self.assertEqual(house.do(("set", 2, 2)), 2)
        self.assertEqual(twin.deeds(), (("strike", 0, 2), ("strike", 1, 1)))
        self.assertRaises(NothingDone, house.redo)
        self.assertEqual((twin.undo(), twin.undo(), twin.redo(), twin.redo()), (1, 0, 1, 2))
        self.assertEqual(house.deeds(), (("strike", 0, 2), ("set", 2, 2)))
        self.assertEqual(twin.twin().board(), twin.board())


class ShowingTest(unittest.TestCase):
    def test_it_is_what_the_board_tells(self):
        for board in boards(702, 25):
            house = housed(board)
            self.assertEqual(house.board(), board)
            self.assertEqual((house.standing(), house.deeds()), (board["marks"], board["log"]))
            part = tuple((c, values[0]) for c, values in enumerate(board["marks"]) if len(values) == 1)
            self.assertEqual(house.set_part(), part)
            self.assertEqual(house.wrong(), marks.wrong_marks(board))
            self.assertIs(house.finished(), marks.is_finished(board))
            self.assertEqual(house.left(), len(answers(marks.cut_puzzle(board))))
            self.assertEqual((house.progress(), house.easiest()), (marks.progress(board), marks.easiest(board)))
            self.assertEqual(house.told(), marks.tale(board))
            for cell, domain in enumerate(board["puzzle"][0]):
                for value in domain:
                    for most in (1, 2):
                        self.assertEqual(house.reasons(cell, value, most), marks.why_struck(board, cell, value, most))

    def test_plain_ones(self):
        house = House((((4,), (), (1, 2)), ()))
        self.assertEqual((house.set_part(), house.left(), house.progress(), house.easiest()), (((0, 4),), 0, (3, 1, 1), (2,)))
        self.assertEqual((house.told(), house.wrong(), house.finished()), ([], (), False))
        self.assertEqual((House(made.FREE).left(), House(made.FREE).set_part()), (2, ()))

    def test_leading_finishes_what_the_strength_solves(self):
        for puzzle in puzzles(703, 40):
            for most in (1, 2, 3):
                house = House(puzzle)
                house.lead(most)
                solved = verdict(puzzle, most)
                self.assertIs(house.finished(), solved[0] == "solved")
                if solved[0] == "solved":
                    self.assertEqual(house.set_part(), tuple(enumerate(solved[1])))
                self.assertEqual(house.wrong(), ())


if __name__ == "__main__":
    unittest.main()
