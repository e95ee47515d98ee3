"""Told reasons: chains of steps that look at no more than k set cells at once, and what they lead to."""

from toldreasons.errors import NoReason
from toldreasons.masks import Stand, asked_masks, least_masks, pair_bits
from toldreasons.puzzles import both_of, do_agree, fillings, is_part, is_question, lies_in, pieces_of, questions
from toldreasons.rules import is_whole


def all_parts(puzzle, k):
    """The ascending tuple of all parts of at most k pairs."""
    found = [()]
    for c, domain in enumerate(puzzle[0]):
        found = found + [part + ((c, value),) for part in found if len(part) < k for value in domain]
    return tuple(sorted(found))


def is_small_part(puzzle, k, value):
    """Whether any value is a part of at most k pairs."""
    return is_part(puzzle, value) and len(value) <= k


def _is_step(puzzle, k, i, value):
    """Whether any value has the form of step number i."""
    if not isinstance(value, tuple) or len(value) != 3:
        return False
    part, question, uses = value
    if not is_small_part(puzzle, k, part) or not is_question(puzzle, question) or not isinstance(uses, tuple):
        return False
    return all(is_whole(use) and 0 <= use < i for use in uses)


def _step_fault(puzzle, k, chain, i, told):
    """The fault of step number i, None without one; told keeps the fillings of the questions by now."""
    if not _is_step(puzzle, k, i, chain[i]):
        return ("form", i)
    part, question, uses = chain[i]
    if question not in told:
        told[question] = fillings(puzzle, question)
    agreed = [t for t in told[question] if do_agree(part, t)]
    if len(uses) != len(agreed):
        return ("uses", i)
    for j, t in enumerate(agreed):
        if not lies_in(chain[uses[j]][0], both_of(part, t)):
            return ("lies", i, j)
    return None


def judge_chain(puzzle, k, value):
    """None if any value is a chain of strength k, else its first fault."""
    if not isinstance(value, tuple):
        return ("form",)
    told = {}
    for i in range(len(value)):
        fault = _step_fault(puzzle, k, value, i, told)
        if fault is not None:
            return fault
    return None


def does_clash(chain):
    """Whether the last part of a chain is ()."""
    return len(chain) > 0 and chain[-1][0] == ()


def told_reasons(puzzle, k):
    """For each no-good of strength k the pair of its round and the first question that strikes it then."""
    bits = pair_bits(puzzle)
    asked = asked_masks(puzzle, bits)
    names = questions(puzzle)
    stands = [Stand(bits, part, len(asked)) for part in all_parts(puzzle, k)]
    reasons = {}
    struck = []
    rounds = 1
    while True:
        # All are asked about what was struck in earlier rounds alone.
        lost = [stand.lost_question(asked, struck) for stand in stands]
        fallen = [(stand, at) for stand, at in zip(stands, lost) if at is not None]
        if not fallen:
            return reasons
        for stand, at in fallen:
            reasons[stand.part] = (rounds, names[at])
        stands = [stand for stand, at in zip(stands, lost) if at is None]
        struck = least_masks(struck + [stand.mask for stand, _ in fallen])
        rounds += 1


def part_rounds(puzzle, k):
    """The ascending pairs (part, round) of all no-goods of strength k."""
    return tuple(sorted([(part, reason[0]) for part, reason in told_reasons(puzzle, k).items()]))


def round_of(puzzle, k, part):
    """The round of a part of at most k pairs, None if it is no no-good."""
    reasons = told_reasons(puzzle, k)
    if part not in reasons:
        return None
    return reasons[part][0]


def _earliest_within(f, k, reasons):
    """Of the no-goods that lie in f one of the least round."""
    found = [piece for piece in pieces_of(f, k) if piece in reasons]
    rounds = [reasons[piece][0] for piece in found]
    return found[rounds.index(min(rounds))]


def _needs(part, k, reasons, told):
    """The no-goods that a no-good's step uses, one for each agreeing filling of its question."""
    agreed = [t for t in told[reasons[part][1]] if do_agree(part, t)]
    return [_earliest_within(both_of(part, t), k, reasons) for t in agreed]


def chain_for(puzzle, k, part):
    """A chain of strength k to a no-good, in the least rounds; raises NoReason if it is none."""
    reasons = told_reasons(puzzle, k)
    if part not in reasons:
        raise NoReason()
    told = {question: fillings(puzzle, question) for question in questions(puzzle)}
    needs = {}
    waiting = [part]
    while waiting:
        wanted = waiting.pop()
        if wanted not in needs:
            needs[wanted] = _needs(wanted, k, reasons, told)
            waiting.extend(needs[wanted])
    # A step uses no-goods of lesser rounds alone, so they stand ahead of it.
    steps = sorted([(reasons[wanted][0], wanted) for wanted in needs])
    numbers = {wanted: i for i, (_, wanted) in enumerate(steps)}
    uses = {wanted: tuple([numbers[need] for need in needs[wanted]]) for wanted in numbers}
    return tuple([(wanted, reasons[wanted][1], uses[wanted]) for wanted in numbers])


def chain_rounds(chain):
    """How many rounds the last step of a right chain needs by it."""
    rounds = []
    for step in chain:
        rounds.append(1 + max([rounds[use] for use in step[2]], default=0))
    return rounds[-1]


def needed_steps(chain):
    """The chain of the steps that the last one needs, uses numbered anew."""
    needed = {len(chain) - 1: True}
    for i in reversed(range(len(chain))):
        if i in needed:
            for use in chain[i][2]:
                needed[use] = True
    kept = [i for i in range(len(chain)) if i in needed]
    numbers = {i: at for at, i in enumerate(kept)}
    steps = [chain[i] for i in kept]
    return tuple([(part, question, tuple([numbers[use] for use in uses])) for part, question, uses in steps])


def strength_in(chain):
    """The greatest number of pairs of a part in a chain."""
    return max([len(step[0]) for step in chain])


def clash_rounds(puzzle, k):
    """The round of (), None if it is no no-good of strength k."""
    return round_of(puzzle, k, ())


def clashes(puzzle, k):
    """Whether () is a no-good of strength k."""
    return clash_rounds(puzzle, k) is not None


def read_off(puzzle, k, cell):
    """The ascending values of a cell that no no-good of strength k strikes."""
    reasons = told_reasons(puzzle, k)
    return tuple([value for value in puzzle[0][cell] if ((cell, value),) not in reasons])
