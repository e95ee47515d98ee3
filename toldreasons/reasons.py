"""Told reasons: chains of steps that look at no more than k set cells at once, and what they lead to."""

from toldreasons.errors import NoReason
from toldreasons.masks import Stand, asked_masks, least_masks, pair_bits
from toldreasons.puzzles import both_of, do_agree, fillings, is_part, is_question, lies_in, pieces_of, questions
from toldreasons.rules import is_whole


def all_parts(puzzle, k):
    """The ascending tuple of all parts of at most k pairs."""
    found = [()]
    for c, domain in enumerate(puzzle[0]):
        found = found + [part + ((c, value),) for part in found if len(part) < k for value in domain]
    return tuple(sorted(found))


def is_small_part(puzzle, k, value):
    """Whether any value is a part of at most k pairs."""
    return is_part(puzzle, value) and len(value) <= k


def _is_step(puzzle, k, i, value):
    """Whether any value has the form of step number i."""
    if not isinstance(value, tuple) or len(value) != 3:
        return False
    part, question, uses = value
    if not is_small_part(puzzle, k, part) or not is_question(puzzle, question) or not isinstance(uses, tuple):
        return False
    return all(is_whole(use) and 0 <= use < i for use in uses)


def _step_fault(puzzle, k, chain, i, told):
    """The fault of step number i, None without one; told keeps the fillings of the questions by now."""
    if not _is_step(puzzle, k, i, chain[i]):
        return ("form", i)
    part, question, uses = chain[i]
    if question not in told:
        told[question] = fillings(puzzle, question)
    agreed = [t for t in told[question] if do_agree(part, t)]
    if len(uses) != len(agreed):
        return ("uses", i)
    for j, t in enumerate(agreed):
        if not lies_in(chain[uses[j]][0], both_of(part, t)):
            return ("lies", i, j)
    return None


def judge_chain(puzzle, k, value):
    """None if any value is a chain of strength k, else its first fault."""
    if not isinstance(value, tuple):
        return ("form",)
    told = {}
    for i in range(len(value)):
        fault = _step_fault(puzzle, k, value, i, told)
        if fault is not None:
            return fault
    return None


def does_clash(chain):
    """Whether the last part of a chain is ()."""
    return len(chain) > 0 and chain[-1][0] == ()


def told_reasons(puzzle, k):
    """For each no-good of strength k the pair of its round and the first question that strikes it then."""
    bits = pair_bits(puzzle)
    asked = asked_masks(puzzle, bits)
    names = questions(puzzle)
    stands = [Stand(bits, part, len(asked)) for part in all_parts(puzzle, k)]
    reasons = {}
    struck = []
    rounds = 1
    while True:
        # All are asked about what was struck in earlier rounds alone.
        lost = [stand.lost_question(asked, struck) for stand in stands]
        fallen = [(stand, at) for stand, at in zip(stands, lost) if at is not None]
        if not fallen:
            return reasons
        for stand, at in fallen:
            reasons[stand.part] = (rounds, names[at])
        stands = [stand for stand, at in zip(stands, lost) if at is None]
        struck = least_masks(struck + [stand.mask for stand, _ in fallen])
        rounds += 1


def part_rounds(puzzle, k):
    """The ascending pairs (part, round) of all no-goods of strength k."""
    return tuple(sorted([(part, reason[0]) for part, reason in told_reasons(puzzle, k).items()]))


def round_of(puzzle, k, part):
    """The round of a part of at most k pairs, None if it is no no-good."""
    reasons = told_reasons(puzzle, k)
    if part not in reasons:
        return None
    return reasons[part][0]


class Reasons:
    """The no-goods of strength k of a puzzle, and what is used by the step of each of them."""

    def __init__(self, puzzle, k):
        self.k = k
        self.told = told_reasons(puzzle, k)
        self.asked = {question: fillings(puzzle, question) for question in questions(puzzle)}
        self.used = {}

    def is_struck(self, part):
        """Whether a part of at most k pairs is a no-good."""
        return part in self.told

    def round_at(self, part):
        """The round of a no-good."""
        return self.told[part][0]

    def question_at(self, part):
        """The first question that strikes a no-good in its round."""
        return self.told[part][1]

    def agreed(self, part, question):
        """The fillings of a question that agree with a part, ascending."""
        return [t for t in self.asked[question] if do_agree(part, t)]

    def struck_in(self, f):
        """The no-goods that lie in f, in the sequence of pieces_of."""
        return [piece for piece in pieces_of(f, self.k) if piece in self.told]

    def _earliest_in(self, f):
        found = self.struck_in(f)
        rounds = [self.round_at(piece) for piece in found]
        return found[rounds.index(min(rounds))]

    def needs(self, part):
        """The no-goods that a no-good's step uses: for each agreeing filling the first one of the least round."""
        if part not in self.used:
            agreed = self.agreed(part, self.question_at(part))
            self.used[part] = tuple([self._earliest_in(both_of(part, t)) for t in agreed])
        return self.used[part]

    def _all_needed(self, part):
        """The no-good and all that its chain needs, by rounds and then ascending."""
        needed = {part: True}
        waiting = [part]
        while waiting:
            wanted = waiting.pop()
            for need in self.needs(wanted):
                if need not in needed:
                    needed[need] = True
                    waiting.append(need)
        return [no_good for _, no_good in sorted([(self.round_at(no_good), no_good) for no_good in needed])]

    def chain(self, part):
        """A chain to a no-good, in the least rounds."""
        # A step uses no-goods of lesser rounds alone, so they stand ahead of it.
        steps = self._all_needed(part)
        numbers = {wanted: i for i, wanted in enumerate(steps)}
        uses = [tuple([numbers[need] for need in self.needs(wanted)]) for wanted in steps]
        return tuple([(wanted, self.question_at(wanted), uses[i]) for i, wanted in enumerate(steps)])


def chain_for(puzzle, k, part):
    """A chain of strength k to a no-good, in the least rounds; raises NoReason if it is none."""
    reasons = Reasons(puzzle, k)
    if not reasons.is_struck(part):
        raise NoReason()
    return reasons.chain(part)


def chain_rounds(chain):
    """How many rounds the last step of a right chain needs by it."""
    rounds = []
    for step in chain:
        rounds.append(1 + max([rounds[use] for use in step[2]], default=0))
    return rounds[-1]


def needed_steps(chain):
    """The chain of the steps that the last one needs, uses numbered anew."""
    needed = {len(chain) - 1: True}
    for i in reversed(range(len(chain))):
        if i in needed:
            for use in chain[i][2]:
                needed[use] = True
    kept = [i for i in range(len(chain)) if i in needed]
    numbers = {i: at for at, i in enumerate(kept)}
    steps = [chain[i] for i in kept]
    return tuple([(part, question, tuple([numbers[use] for use in uses])) for part, question, uses in steps])


def strength_in(chain):
    """The greatest number of pairs of a part in a chain."""
    return max([len(step[0]) for step in chain])


def clash_rounds(puzzle, k):
    """The round of (), None if it is no no-good of strength k."""
    return round_of(puzzle, k, ())


def clashes(puzzle, k):
    """Whether () is a no-good of strength k."""
    return clash_rounds(puzzle, k) is not None


def read_off(puzzle, k, cell):
    """The ascending values of a cell that no no-good of strength k strikes."""
    reasons = told_reasons(puzzle, k)
    return tuple([value for value in puzzle[0][cell] if ((cell, value),) not in reasons])
