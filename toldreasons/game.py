"""The game with stones: one side asks, the other one answers, and the told reasons say which of both wins."""

from toldreasons.errors import IsLost, NoReason
from toldreasons.puzzles import both_of, do_agree, fillings, is_part, is_question, lies_in, pieces_of, questions
from toldreasons.reasons import Reasons, round_of


def _is_move(puzzle, value):
    """Whether any value has the form of a move."""
    if not isinstance(value, tuple) or len(value) != 3:
        return False
    question, t, kept = value
    if not is_question(puzzle, question):
        return False
    if t is None and kept is None:
        return True
    return is_part(puzzle, t) and is_part(puzzle, kept)


def _move_fault(k, i, position, move, told):
    """The fault of a move of the right form from a position; told has the fillings of its question."""
    question, t, kept = move
    agreed = [filling for filling in told[question] if do_agree(position, filling)]
    if t is None:
        return ("filling", i) if agreed else None
    if t not in agreed:
        return ("filling", i)
    if len(kept) > k or not lies_in(kept, both_of(position, t)):
        return ("kept", i)
    return None


def judge_game(puzzle, k, start, value):
    """None if any value is a tuple of moves as they can be made from start, else its first fault."""
    if not isinstance(value, tuple):
        return ("form",)
    position = start
    told = {}
    for i, move in enumerate(value):
        if not _is_move(puzzle, move):
            return ("form", i)
        # The move in which the answerer has lost leaves no position.
        if position is None:
            return ("behind", i)
        if move[0] not in told:
            told[move[0]] = fillings(puzzle, move[0])
        fault = _move_fault(k, i, position, move, told)
        if fault is not None:
            return fault
        position = move[2]
    return None


def _asker_way(reasons, position):
    if not reasons.is_struck(position):
        raise NoReason()
    return (reasons.question_at(position), reasons.needs(position))


def asker_move(puzzle, k, position):
    """The asker's question at a no-good, and what is kept of each agreeing filling; raises NoReason at others."""
    return _asker_way(Reasons(puzzle, k), position)


def _answerer_way(reasons, position, question):
    if reasons.is_struck(position):
        raise IsLost()
    return [t for t in reasons.agreed(position, question) if not reasons.struck_in(both_of(position, t))][0]


def answerer_move(puzzle, k, position, question):
    """The answerer's filling at a position in the greatest book; raises IsLost at a no-good."""
    return _answerer_way(Reasons(puzzle, k), position, question)


def winner(puzzle, k, position):
    """Who wins from a position: the asker, and in how many moves, or the answerer."""
    rounds = round_of(puzzle, k, position)
    if rounds is None:
        return ("answerer",)
    return ("asker", rounds)


def _asked_move(reasons, position, number):
    """The asker's move, answered by the filling of this number, modulo how many agree."""
    question, keeps = _asker_way(reasons, position)
    if len(keeps) == 0:
        return (question, None, None)
    at = number % len(keeps)
    return (question, reasons.agreed(position, question)[at], keeps[at])


def _pick_at(picks, i):
    """Pick number i: behind the last one that one goes on; 0 without any."""
    if len(picks) == 0:
        return 0
    return picks[min(i, len(picks) - 1)]


def asked_out(puzzle, k, position, picks):
    """The game from a no-good in which the asker goes its way, and the answerer by the picks, till it has lost."""
    reasons = Reasons(puzzle, k)
    moves = []
    kept = position
    while kept is not None:
        move = _asked_move(reasons, kept, _pick_at(picks, len(moves)))
        moves.append(move)
        kept = move[2]
    return tuple(moves)


def answered_out(puzzle, k, position, asks):
    """The game from a position in the greatest book in which the answerer goes its way, and the asker by the asks."""
    reasons = Reasons(puzzle, k)
    names = questions(puzzle)
    moves = []
    held = position
    for number, piece in asks:
        question = names[number % len(names)]
        t = _answerer_way(reasons, held, question)
        pieces = pieces_of(both_of(held, t), k)
        held = pieces[piece % len(pieces)]
        moves.append((question, t, held))
    return tuple(moves)


def _longest_pick(reasons, position):
    """The number of the first agreeing filling of which what is kept has the greatest round."""
    rounds = [reasons.round_at(kept) for kept in reasons.needs(position)]
    return rounds.index(max(rounds)) if rounds else 0


def longest_stand(puzzle, k, position):
    """A game from a no-good in which the asker goes its way, and the answerer stands as long as can be."""
    reasons = Reasons(puzzle, k)
    moves = []
    kept = position
    while kept is not None:
        move = _asked_move(reasons, kept, _longest_pick(reasons, kept))
        moves.append(move)
        kept = move[2]
    return tuple(moves)
