"""A desk: a house to which lines are said, and which answers by texts."""

from toldreasons.deeds import deed_text, log_text, read_deed
from toldreasons.errors import BadDeed, BadText, NothingDone
from toldreasons.house import House
from toldreasons.puzzles import is_part
from toldreasons.texts import Reader, grid_text, puzzle_text


def _spaced(numbers):
    return " ".join([str(number) for number in numbers])


def _undo(house):
    return str(house.undo())


def _redo(house):
    return str(house.redo())


def _marks(house):
    """A line for each cell: its number, and the values that stand."""
    lines = [f"{c}:" + "".join([f" {value}" for value in values]) for c, values in enumerate(house.standing())]
    return "\n".join(lines)


def _puzzle(house):
    return puzzle_text(house.board()["puzzle"])


def _log(house):
    return log_text(house.deeds())


def _wrong(house):
    return "\n".join([f"{cell} {value}" for cell, value in house.wrong()])


def _finished(house):
    return "yes" if house.finished() else "no"


def _left(house):
    return str(house.left())


def _progress(house):
    return _spaced(house.progress())


def _easiest(house):
    return _spaced(house.easiest())


def _tale(house):
    return "\n".join([f"{deed_text(deed)} by {k}" for deed, k in house.told()])


_PLAIN = {
    "undo": _undo,
    "redo": _redo,
    "marks": _marks,
    "puzzle": _puzzle,
    "log": _log,
    "wrong": _wrong,
    "finished": _finished,
    "left": _left,
    "progress": _progress,
    "easiest": _easiest,
    "tale": _tale,
}


def _why(house, line):
    """By which strength, up to 2, and in how many steps the value that is asked for is struck."""
    reader = Reader(line)
    reader.take(("why ",))
    cell = reader.number()
    reader.take((" ",))
    value = reader.number()
    reader.shut()
    if not is_part(house.board()["puzzle"], ((cell, value),)):
        return "what"
    told = house.reasons(cell, value, 2)
    if told is None:
        return "not by 2"
    return f"by {told[0]} in {len(told[1])} steps"


def _answer(house, line):
    """The answer to a text other than "grid"; it may be empty."""
    if line in _PLAIN:
        tell = _PLAIN[line]
        return tell(house)
    if line in ("hint 1", "hint 2", "hint 3"):
        return str(house.hint(int(line[5:])))
    if line in ("lead 1", "lead 2", "lead 3"):
        return str(house.lead(int(line[5:])))
    if line.startswith("why"):
        return _why(house, line)
    return str(house.do(read_deed(line)))


class Desk:
    """A house and the width of the grid in which it is shown."""

    def __init__(self, puzzle, width):
        self.home = House(puzzle)
        self.width = width

    def house(self):
        """The house to which lines are said, the same one at each call."""
        return self.home

    def say(self, line):
        """The answer to any value."""
        if not isinstance(line, str):
            return "what"
        if line == "grid":
            return grid_text(len(self.home.standing()), self.width, self.home.set_part())
        try:
            return _answer(self.home, line) or "nothing"
        except NothingDone:
            return "refused"
        except (BadText, BadDeed):
            return "what"
