"""All errors of the package; the other files import those that they raise."""


def copied(value):
    """The value, with copies of all lists and dicts in it: nobody changes what an error tells."""
    if isinstance(value, list):
        return [copied(member) for member in value]
    if isinstance(value, tuple):
        return tuple([copied(member) for member in value])
    if isinstance(value, dict):
        return {key: copied(member) for key, member in value.items()}
    return value


class PuzzleError(ValueError):
    """What every error of this package is."""


class BadText(PuzzleError):
    """A text that cannot be read; place is the number of its signs that could be."""

    def __init__(self, place):
        self.place = copied(place)


class BadPuzzle(PuzzleError):
    """What is no puzzle; word tells why."""

    def __init__(self, word):
        self.word = copied(word)


class BadPaper(PuzzleError):
    """A paper that does not show what it tells; word tells why."""

    def __init__(self, word):
        self.word = copied(word)


class NoAnswer(PuzzleError):
    """A puzzle has no answer where one is asked."""


class TooMany(PuzzleError):
    """There is more than can be looked at."""


class BadDeed(PuzzleError):
    """A deed that cannot be done on this board."""


class NoReason(PuzzleError):
    """A part that is no no-good: no chain comes to it."""


class IsLost(PuzzleError):
    """A position at which the answerer has no way: it is a no-good."""


class NothingDone(PuzzleError):
    """There is no deed to take back, or to do again."""
