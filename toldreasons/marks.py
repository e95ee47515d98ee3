"""Marks of players: boards, deeds done, taken back and done again, hints, and what is wrong."""

from toldreasons.answers import answers
from toldreasons.errors import BadDeed, NothingDone
from toldreasons.puzzles import is_answer
from toldreasons.reasons import Reasons, chain_for
from toldreasons.rules import is_cell, is_whole
from toldreasons.strength import first_reason, struck_by


def _board(puzzle, marks, log, back):
    return {"puzzle": puzzle, "marks": marks, "log": log, "back": back}


def new_board(puzzle):
    """The board on which all values stand."""
    return _board(puzzle, puzzle[0], (), ())


def cut_puzzle(board):
    """The puzzle with the marks as domains."""
    return (board["marks"], board["puzzle"][1])


def _can_be_done(word, cell, value, marks):
    """Whether a word asks for something at a cell and a value of its domain."""
    stands = value in marks[cell]
    if word == "strike":
        return stands
    if word == "raise":
        return not stands
    return word == "set" and marks[cell] != (value,)


def is_deed(board, value):
    """Whether any value is a deed for this board."""
    if not isinstance(value, tuple) or len(value) != 3:
        return False
    word, cell, told = value
    domains = board["puzzle"][0]
    if not is_cell(cell, len(domains)) or not is_whole(told) or told not in domains[cell]:
        return False
    return _can_be_done(word, cell, told, board["marks"])


def _marked(marks, deed):
    """The marks behind a deed."""
    word, cell, value = deed
    others = [v for v in marks[cell] if v != value and word != "set"]
    kept = others if word == "strike" else others + [value]
    return marks[:cell] + (tuple(sorted(kept)),) + marks[cell + 1:]


def done(board, deed):
    """The board behind a deed; raises BadDeed for any value that is none."""
    if not is_deed(board, deed):
        raise BadDeed()
    return _board(board["puzzle"], _marked(board["marks"], deed), board["log"] + (deed,), ())


def undone(board):
    """The board without its last deed; raises NothingDone where there is none."""
    if len(board["log"]) == 0:
        raise NothingDone()
    log = board["log"][:-1]
    marks = board["puzzle"][0]
    for deed in log:
        marks = _marked(marks, deed)
    return _board(board["puzzle"], marks, log, board["back"] + board["log"][-1:])


def redone(board):
    """The board with the deed that was taken back last; raises NothingDone where there is none."""
    if len(board["back"]) == 0:
        raise NothingDone()
    deed = board["back"][-1]
    return _board(board["puzzle"], _marked(board["marks"], deed), board["log"] + (deed,), board["back"][:-1])


def wrong_marks(board):
    """The ascending pairs (cell, value) that are struck, though some answer has them."""
    had = {pair: True for values in answers(board["puzzle"]) for pair in enumerate(values)}
    return tuple(sorted([(c, value) for c, value in had if value not in board["marks"][c]]))


def is_right(board):
    """Whether no mark is wrong."""
    return len(wrong_marks(board)) == 0


def answers_left(board):
    """The ascending list of the answers that the marks leave."""
    return list(answers(cut_puzzle(board)))


def is_finished(board):
    """Whether just one value stands in each cell, and these are an answer."""
    if not all([len(values) == 1 for values in board["marks"]]):
        return False
    return is_answer(board["puzzle"], tuple([values[0] for values in board["marks"]]))


def next_hint(board, most):
    """The value that is to be struck next, with its reason by strengths up to most; None if there is none."""
    cut = cut_puzzle(board)
    reason = first_reason(cut, (), most)
    if reason is None:
        return None
    k, _, pair = reason
    return reason + (chain_for(cut, k, (pair,)),)


def hinted(board, most):
    """The board behind the next hint; the board itself if there is none."""
    reason = first_reason(cut_puzzle(board), (), most)
    if reason is None:
        return board
    return done(board, ("strike",) + reason[2])


def led_by_hints(board, most):
    """The board behind all hints, one after another."""
    ahead = board
    behind = hinted(board, most)
    while behind != ahead:
        ahead = behind
        behind = hinted(ahead, most)
    return behind


def why_struck(board, cell, value, most):
    """The least strength up to most that strikes a value in the puzzle, and a chain; None if none does."""
    part = ((cell, value),)
    for k in range(1, most + 1):
        reasons = Reasons(board["puzzle"], k)
        if reasons.is_struck(part):
            return (k, reasons.chain(part))
    return None


def _pairs(marks):
    return [(c, value) for c, values in enumerate(marks) for value in values]


def _least_strength(rules, ahead, behind):
    """The lesser one of the strengths 1 and 2 by which all that goes from marks to marks is struck; 0 if none is."""
    gone = [pair for pair in _pairs(ahead) if pair not in _pairs(behind)]
    came = [pair for pair in _pairs(behind) if pair not in _pairs(ahead)]
    # Each deed strikes something or lets something stand.
    if len(came) > 0:
        return 0
    for k in (1, 2):
        struck = struck_by((ahead, rules), k)
        if all([pair in struck for pair in gone]):
            return k
    return 0


def tale(board):
    """The list of the pairs of each deed done and of the strength, 1 or 2, that tells it; 0 if neither does."""
    domains, rules = board["puzzle"]
    told = []
    marks = domains
    for deed in board["log"]:
        behind = _marked(marks, deed)
        told.append((deed, _least_strength(rules, marks, behind)))
        marks = behind
    return told


def progress(board):
    """How many values stand in all cells, in how many cells just one does, and in how many none."""
    sizes = [len(values) for values in board["marks"]]
    return (sum(sizes), sizes.count(1), sizes.count(0))


def stuck(board, most):
    """Whether there is no hint, and the board is not finished."""
    return first_reason(cut_puzzle(board), (), most) is None and not is_finished(board)


def easiest(board):
    """The ascending cells in which the fewest values stand, of those with two or more."""
    sizes = [len(values) for values in board["marks"]]
    least = min([size for size in sizes if size > 1], default=None)
    return tuple([c for c, size in enumerate(sizes) if size == least])
