"""Books of partial answers: what no reason of a strength breaks."""

from toldreasons.masks import Stand, asked_masks, least_masks, mask_of, pair_bits
from toldreasons.puzzles import part_of, pieces_of, questions
from toldreasons.reasons import all_parts, is_small_part, told_reasons
from toldreasons.rules import is_rising


def _is_list_of_parts(puzzle, k, value):
    if not isinstance(value, tuple) or not all(is_small_part(puzzle, k, part) for part in value):
        return False
    return is_rising(value)


def _within_fault(k, book):
    """The first part, and the first one that lies in it, that is not there; None without one."""
    there = {part: True for part in book}
    for part in book:
        for piece in sorted(pieces_of(part, k)):
            if piece not in there:
                return ("within", part, piece)
    return None


def _question_fault(puzzle, k, book):
    """The first part and question without a filling that the book lets, None without one."""
    there = {part: True for part in book}
    bits = pair_bits(puzzle)
    asked = asked_masks(puzzle, bits)
    missing = least_masks([mask_of(bits, part) for part in all_parts(puzzle, k) if part not in there])
    for part in book:
        at = Stand(bits, part, len(asked)).lost_question(asked, missing)
        if at is not None:
            return ("question", part, questions(puzzle)[at])
    return None


def judge_book(puzzle, k, value):
    """None if any value is a book of strength k, else its first fault."""
    if not _is_list_of_parts(puzzle, k, value):
        return ("form",)
    fault = _within_fault(k, value)
    if fault is not None:
        return fault
    return _question_fault(puzzle, k, value)


def greatest_book(puzzle, k):
    """The ascending tuple of all parts of at most k pairs that are no no-goods."""
    reasons = told_reasons(puzzle, k)
    return tuple([part for part in all_parts(puzzle, k) if part not in reasons])


def book_of(puzzle, k, answers):
    """The book of all parts of at most k pairs that lie in one of the answers."""
    found = {}
    for values in answers:
        for piece in pieces_of(part_of(values, list(range(len(puzzle[0])))), k):
            found[piece] = True
    return tuple(sorted(found))


def both_books(one, other):
    """The book of all parts that stand in one of two books."""
    return tuple(sorted(set(one) | set(other)))
