"""A desk: what is said to it, and what it answers: [14.4]."""

import random
import unittest

import made
from test_marks import all_deeds, puzzles
from toldreasons.deeds import deed_text, log_text
from toldreasons.desk import Desk
from toldreasons.errors import BadDeed, NothingDone
from toldreasons.house import House
from toldreasons.texts import grid_text, puzzle_text

LINES = ("grid", "marks", "puzzle", "log", "wrong", "finished", "left", "progress", "easiest", "tale")


def spaced(numbers):
    return " ".join(str(number) for number in numbers)


def expected(house, puzzle, width, line):
    """What is shown for a line, by the words of the document."""
    lines = {
        "grid": lambda: grid_text(len(puzzle[0]), width, house.set_part()),
        "marks": lambda: "\n".join(spaced([f"{c}:", *values]) for c, values in enumerate(house.standing())),
        "puzzle": lambda: puzzle_text(puzzle),
        "log": lambda: log_text(house.deeds()),
        "wrong": lambda: "\n".join(spaced(pair) for pair in house.wrong()),
        "finished": lambda: "yes" if house.finished() else "no",
        "left": lambda: str(house.left()),
        "progress": lambda: spaced(house.progress()),
        "easiest": lambda: spaced(house.easiest()),
        "tale": lambda: "\n".join(f"{deed_text(deed)} by {k}" for deed, k in house.told()),
    }
    return lines[line]() or "nothing"


def why(house, cell, value):
    told = house.reasons(cell, value, 2)
    return "not by 2" if told is None else f"by {told[0]} in {len(told[1])} steps"


class SayTest(unittest.TestCase):
    def test_the_house_is_the_same_object(self):
        desk = Desk(made.TOLD, 3)
        house = desk.house()
        self.assertIsInstance(house, House)
        self.assertIs(desk.house(), house)
        house.do(("strike", 0, 2))
        self.assertEqual((desk.say("log"), desk.say("undo")), ("strike 0 2", "0"))
        self.assertEqual((house.deeds(), desk.say("redo"), house.deeds()), ((), "1", (("strike", 0, 2),)))
        self.assertIs(desk.house(), house)

    def test_a_new_desk(self):
        desk = Desk((((1, 2), (12,), ()), (("unlike", (0, 1)),)), 2)
        said = [desk.say(line) for line in LINES]
        self.assertEqual(said, [". 12\n.", "0: 1 2\n1: 12\n2:", "cell 1 2\ncell 12\ncell -\nunlike 0 1", "nothing", "nothing", "no", "0", "3 1 1", "0", "nothing"])

    def test_widths(self):
        for width, text in ((1, "4\n.\n7"), (2, "4 .\n7"), (3, "4 . 7")):
            self.assertEqual(Desk((((4,), (2, 7), (7,)), ()), width).say("grid"), text)

    def test_each_line(self):
        desk = Desk(made.FREE, 1)
        self.assertEqual([desk.say("set 0 2"), desk.say("wrong"), desk.say("tale"), desk.say("left")], ["1", "0 1", "set 0 2 by 0", "1"])
        self.assertEqual([desk.say("strike 1 1"), desk.say("wrong"), desk.say("left"), desk.say("marks")], ["2", "0 1\n1 1", "0", "0: 2\n1: 2"])
        self.assertEqual([desk.say("log"), desk.say("easiest"), desk.say("progress"), desk.say("finished")], ["set 0 2\nstrike 1 1", "nothing", "2 2 0", "no"])
        self.assertEqual([desk.say("raise 1 1"), desk.say("set 1 1"), desk.say("finished"), desk.say("grid")], ["3", "4", "yes", "2\n1"])
        self.assertEqual(desk.say("tale"), "set 0 2 by 0\nstrike 1 1 by 0\nraise 1 1 by 0\nset 1 1 by 1")
        self.assertEqual(desk.say("puzzle"), "cell 1 2\ncell 1 2\nunlike 0 1")

    def test_hints_and_leads(self):
        desk = Desk(made.TRIO, 3)
        self.assertEqual([desk.say("hint 1"), desk.say("lead 1"), desk.say("hint 2"), desk.say("hint 3"), desk.say("lead 2"), desk.say("lead 3")],
                         ["0", "0", "1", "1", "4", "0"])
        self.assertEqual([desk.say("easiest"), desk.say("progress"), desk.say("marks")], ["nothing", "0 0 3", "0:\n1:\n2:"])
        self.assertEqual(Desk(made.TRIO, 3).say("lead 3"), "6")

    def test_refused(self):
        desk = Desk(made.TOLD, 2)
        self.assertEqual([desk.say("undo"), desk.say("redo"), desk.say("set 0 1"), desk.say("redo")], ["refused", "refused", "1", "refused"])
        self.assertEqual([desk.say("undo"), desk.say("undo"), desk.say("redo"), desk.say("redo")], ["0", "refused", "1", "refused"])

    def test_why(self):
        desk = Desk(made.TOLD, 2)
        self.assertEqual([desk.say("why 0 2"), desk.say("why 0 1"), desk.say("why 2 3")], ["by 1 in 1 steps", "not by 2", "not by 2"])
        many = len(desk.house().reasons(2, 1, 2)[1])
        self.assertEqual(desk.say("why 2 1"), f"by 1 in {many} steps")
        desk.say("strike 0 2")
        self.assertEqual(desk.say("why 0 2"), "by 1 in 1 steps")
        self.assertTrue(Desk(made.TRIO, 1).say("why 0 1").startswith("by 2 in "))
        # Five cells with unlike ones of four values: there is no answer, but strength 2 does not tell.
        five = (((1, 2, 3, 4),) * 5, tuple(("unlike", (a, b)) for b in range(5) for a in range(b)))
        self.assertEqual(Desk(five, 5).say("why 0 1"), "not by 2")
        self.assertEqual(Desk(five, 5).house().reasons(0, 1, 3)[0], 3)
        for line in ("why 3 1", "why 0 3", "why 2 0", "why 16 1", "why -1 1", "why 0", "why", "why ", "why 0 2 ", "why 00 2", "why 0 02", "why 0 2\n",
                     "why  0 2", "why 0  2", "why 0 x", "why 0 2 1", "Why 0 2", "why0 2", "why 0,2", "why 1000000000 2", "why 0 1000000000", "whys 0 2"):
            self.assertEqual(desk.say(line), "what", line)

    def test_what(self):
        desk = Desk(made.TOLD, 2)
        desk.say("strike 0 2")
        desk.say("strike 0 1")
        desk.say("undo")
        before = desk.house().board()
        for value in tuple(v for v in made.STRANGE if v != "") + made.DEEP + (
            "", "hint 0", "hint 4", "hint", "hint ", "hint 1 ", "hint  1", "hint 01", "hint 12", "hint -1", "hint 1\n", "hint x", "lead 0", "lead 4", "lead",
            "lead 01", "lead 1.", "Hint 1", " hint 1", "hints 1", "grid ", " grid", "Grid", "grids", "grid 2", "marks\n", "puzzles", "log\n", "undo ", "undo 1",
            "redo 1", "finished?", "left 1", "tale\t", "strike 0 2", "raise 0 1", "set 0 1", "strike 3 1", "strike 0 3", "strike 0 1 ", "strike 0", "strike",
            "set 00 1", "set 1 01", "raise 9 9", "strive 0 1", "strike 1 1\nstrike 1 2", "undo\nundo", "nothing", "refused", "what", "hint 1\nhint 1",
            ("strike", 1, 1), ["undo"], ("undo",), {"undo": 1}, {"grid": 1}, 1, True, "strike 999999999 1", "strike 1 999999999", "~" * 8000,
        ):
            self.assertEqual(desk.say(value), "what", value)
        self.assertEqual(desk.house().board(), before)
        self.assertEqual(desk.say("redo"), "2")

    def test_plays(self):
        dice = random.Random(801)
        said = {}
        for puzzle in puzzles(801, 20) + list(made.PUZZLES):
            width = dice.randint(1, len(puzzle[0]))
            desk, house = Desk(puzzle, width), House(puzzle)
            for _ in range(40):
                line = dice.choice(LINES + ("undo", "redo", "hint 1", "hint 2", "lead 1", "why", "deed", "deed", "deed", "deed", "odd"))
                said[line] = True
                if line in LINES:
                    self.assertEqual(desk.say(line), expected(house, puzzle, width, line))
                elif line in ("undo", "redo"):
                    try:
                        answer = str(getattr(house, line)())
                    except NothingDone:
                        answer = "refused"
                    self.assertEqual(desk.say(line), answer)
                elif line[:5] in ("hint ", "lead "):
                    if dice.random() < 0.4:
                        self.assertEqual(desk.say(line), str(getattr(house, line[:4])(int(line[5:]))))
                elif line == "why":
                    pairs = [(c, value) for c, domain in enumerate(puzzle[0]) for value in domain]
                    if pairs:
                        pair = dice.choice(pairs)
                        self.assertEqual(desk.say(f"why {spaced(pair)}"), why(house, *pair))
                elif line == "deed" and all_deeds(house.board()):
                    deed = dice.choice(all_deeds(house.board()))
                    self.assertEqual(desk.say(deed_text(deed)), str(house.do(deed)))
                elif line == "odd":
                    deed = (dice.choice(("strike", "raise", "set")), dice.randrange(6), dice.randrange(8))
                    try:
                        answer = str(house.do(deed))
                    except BadDeed:
                        answer = "what"
                    self.assertEqual(desk.say(deed_text(deed)), answer)
                self.assertEqual(desk.house().board(), house.board())
        self.assertEqual(len(said), len(LINES) + 8)


if __name__ == "__main__":
    unittest.main()
