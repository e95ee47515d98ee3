"""A house: a board that stands, and what is done and shown of it."""

from toldreasons.marks import answers_left, done, easiest, hinted, is_finished, led_by_hints, new_board, progress
from toldreasons.marks import redone, tale, undone, why_struck, wrong_marks


class House:
    """A puzzle's board, on which deeds are done, taken back and done again."""

    def __init__(self, puzzle):
        self.held = new_board(puzzle)

    def board(self):
        """The board that stands."""
        return dict(self.held)

    def _goes_to(self, board):
        """Lets another board stand; returns how many deeds more its log has."""
        many = len(board["log"]) - len(self.held["log"])
        self.held = board
        return many

    def do(self, deed):
        """Does a deed; returns how many the log has then. Raises BadDeed for any value that is none."""
        self.held = done(self.held, deed)
        return len(self.held["log"])

    def undo(self):
        """Takes the last deed back; returns how many the log has then. Raises NothingDone where there is none."""
        self.held = undone(self.held)
        return len(self.held["log"])

    def redo(self):
        """Does the deed again that was taken back last; returns how many the log has then, or raises NothingDone."""
        self.held = redone(self.held)
        return len(self.held["log"])

    def hint(self, most):
        """Strikes what the next hint tells; returns how many deeds that were."""
        return self._goes_to(hinted(self.held, most))

    def lead(self, most):
        """Follows all hints; returns how many deeds that were."""
        return self._goes_to(led_by_hints(self.held, most))

    def deeds(self):
        """The deeds done, in order."""
        return self.held["log"]

    def twin(self):
        """A house that stands alike, and goes its own way."""
        other = House(self.held["puzzle"])
        other.held = self.held
        return other

    def standing(self):
        """For each cell the ascending values that stand."""
        return self.held["marks"]

    def set_part(self):
        """The part of the cells in which just one value stands."""
        return tuple([(c, values[0]) for c, values in enumerate(self.held["marks"]) if len(values) == 1])

    def wrong(self):
        """The ascending pairs (cell, value) that are struck, though some answer has them."""
        return wrong_marks(self.held)

    def finished(self):
        """Whether just one value stands in each cell, and these are an answer."""
        return is_finished(self.held)

    def left(self):
        """How many answers the marks leave."""
        return len(answers_left(self.held))

    def progress(self):
        """How many values stand in all cells, in how many cells just one does, and in how many none."""
        return progress(self.held)

    def easiest(self):
        """The ascending cells in which the fewest values stand, of those with two or more."""
        return easiest(self.held)

    def told(self):
        """The list of the pairs of each deed done and of the strength that tells it."""
        return tale(self.held)

    def reasons(self, cell, value, most):
        """The least strength up to most that strikes a value in the puzzle, and a chain; None if none does."""
        return why_struck(self.held, cell, value, most)
