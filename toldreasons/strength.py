"""Strengths: what reasons of a strength strike and solve, hints, and papers of the least strength."""

from toldreasons.answers import first_answer, settled
from toldreasons.books import greatest_book, judge_book
from toldreasons.puzzles import is_answer, is_part
from toldreasons.reasons import Reasons, clashes, judge_chain, told_reasons
from toldreasons.rules import is_whole


def _struck(puzzle, reasons):
    """The ascending pairs (cell, value) whose parts are among the no-goods."""
    pairs = [(c, value) for c, domain in enumerate(puzzle[0]) for value in domain]
    return tuple([pair for pair in pairs if (pair,) in reasons])


def _left(puzzle, reasons):
    """For each cell the ascending values whose parts are not among the no-goods."""
    domains = puzzle[0]
    return tuple([tuple([v for v in domain if ((c, v),) not in reasons]) for c, domain in enumerate(domains)])


def _verdict(puzzle, reasons):
    if () in reasons:
        return ("clash",)
    left = _left(puzzle, reasons)
    if all([len(values) == 1 for values in left]):
        return ("solved", tuple([values[0] for values in left]))
    return ("open",)


def left_by(puzzle, k):
    """For each cell the ascending values that strength k does not strike."""
    return _left(puzzle, told_reasons(puzzle, k))


def struck_by(puzzle, k):
    """The ascending pairs (cell, value) that strength k strikes."""
    return _struck(puzzle, told_reasons(puzzle, k))


def verdict(puzzle, k):
    """What strength k makes of a puzzle: a clash, its one answer, or neither."""
    return _verdict(puzzle, told_reasons(puzzle, k))


def least_clash(puzzle):
    """The least strength that clashes, None if none does."""
    if first_answer(puzzle) is not None:
        return None
    k = 1
    # The strength of as many cells as there are clashes at the latest.
    while not clashes(puzzle, k):
        k += 1
    return k


def least_solving(puzzle):
    """The least strength that solves, None if none does."""
    if len(settled(puzzle)) != 1:
        return None
    k = 1
    # The strength of as many cells as there are solves at the latest.
    while verdict(puzzle, k)[0] != "solved":
        k += 1
    return k


def _profile_row(puzzle, k):
    reasons = told_reasons(puzzle, k)
    greatest = max([reason[0] for reason in reasons.values()], default=0)
    return (k, len(_struck(puzzle, reasons)), greatest, _verdict(puzzle, reasons)[0])


def profile(puzzle, most):
    """For each strength up to most: how much it strikes, in how many rounds, and the word of its verdict."""
    return tuple([_profile_row(puzzle, k) for k in range(1, most + 1)])


def _joined(reasons, parts):
    """One chain that comes to all the no-goods, each part once."""
    numbers = {}
    steps = []
    for part in parts:
        for step in reasons.chain(part):
            if step[0] not in numbers:
                numbers[step[0]] = len(steps)
                uses = tuple([numbers[need] for need in reasons.needs(step[0])])
                steps.append((step[0], step[1], uses))
    return tuple(steps)


def joined_chains(puzzle, k, parts):
    """One chain of strength k that comes to all the no-goods, each part once."""
    return _joined(Reasons(puzzle, k), parts)


def hint(puzzle, k):
    """What strength k strikes, and one chain that comes to it; None if it strikes nothing."""
    reasons = Reasons(puzzle, k)
    struck = _struck(puzzle, reasons.told)
    if len(struck) == 0:
        return None
    return (struck, _joined(reasons, [(pair,) for pair in struck]))


def first_reason(puzzle, known, most):
    """The strength, the round and the pair of what is to be reasoned next, None if there is nothing."""
    for k in range(1, most + 1):
        reasons = told_reasons(puzzle, k)
        found = [(k, reasons[(pair,)][0], pair) for pair in _struck(puzzle, reasons) if pair not in known]
        if found:
            return min(found)
    return None


def _other_pairs(puzzle, answer):
    """The ascending pairs of cells and values of their domains other than the answer's."""
    return [(c, value) for c, domain in enumerate(puzzle[0]) for value in domain if value != answer[c]]


def _clash_paper(puzzle):
    k = least_clash(puzzle)
    book = () if k == 1 else greatest_book(puzzle, k - 1)
    return ("clash", k, Reasons(puzzle, k).chain(()), book)


def _solved_paper(puzzle, answer):
    k = least_solving(puzzle)
    pairs = _other_pairs(puzzle, answer)
    chain = joined_chains(puzzle, k, [(pair,) for pair in pairs])
    if k == 1:
        return ("solved", k, answer, chain, (), None)
    book = greatest_book(puzzle, k - 1)
    return ("solved", k, answer, chain, book, min([pair for pair in pairs if (pair,) in book]))


def strength_paper(puzzle):
    """The paper of how strong reasons have to be: for a clash, for one answer, or that there are several."""
    found = settled(puzzle)
    if len(found) == 0:
        return _clash_paper(puzzle)
    if len(found) == 1:
        return _solved_paper(puzzle, found[0])
    return ("several",) + found


_SIZES = {"clash": 4, "solved": 6, "several": 3}


def _is_paper(value):
    """Whether any value has the form of a paper, as far as it can be told without the puzzle."""
    if not isinstance(value, tuple) or len(value) == 0 or not isinstance(value[0], str):
        return False
    if _SIZES.get(value[0]) != len(value):
        return False
    if value[0] == "several":
        return True
    k = value[1]
    if not is_whole(k) or k < 1:
        return False
    if k > 1:
        return True
    return value[3] == () if value[0] == "clash" else value[4] == () and value[5] is None


def _are_unlike_answers(puzzle, told):
    return all([is_answer(puzzle, values) for values in told]) and len(set(told)) == len(told)


def _is_left(puzzle, answer, left):
    """Whether any value is a pair of a cell and another value of its domain than the answer's."""
    return is_part(puzzle, (left,)) and answer[left[0]] != left[1]


def _chain_fault(puzzle, k, chain, wanted):
    fault = judge_chain(puzzle, k, chain)
    if fault is not None:
        return ("chain", fault)
    told = {step[0]: True for step in chain}
    for part in wanted:
        if part not in told:
            return ("reach", part)
    return None


def _book_fault(puzzle, k, book, part):
    """The fault of a book of the strength below k that is to have the part; there is none to be for k of 1."""
    if k == 1:
        return None
    fault = judge_book(puzzle, k - 1, book)
    if fault is not None:
        return ("book", fault)
    return None if part in book else ("book", ("missing",))


def _judge_clash(puzzle, value):
    _, k, chain, book = value
    fault = _chain_fault(puzzle, k, chain, [()])
    if fault is not None:
        return fault
    return _book_fault(puzzle, k, book, ())


def _judge_solved(puzzle, value):
    _, k, answer, chain, book, left = value
    if k > 1 and not _is_left(puzzle, answer, left):
        return ("form",)
    fault = _chain_fault(puzzle, k, chain, [(pair,) for pair in _other_pairs(puzzle, answer)])
    if fault is not None:
        return fault
    return _book_fault(puzzle, k, book, (left,))


def judge_strength(puzzle, value):
    """None if any value is a paper that shows what it tells, else its first fault."""
    if not _is_paper(value):
        return ("form",)
    word = value[0]
    if word == "clash":
        return _judge_clash(puzzle, value)
    told = value[1:] if word == "several" else value[2:3]
    if not _are_unlike_answers(puzzle, told):
        return ("answer",)
    if word == "several":
        return None
    return _judge_solved(puzzle, value)
