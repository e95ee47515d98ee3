"""Parts as integers, a bit for each pair: so it is told quickly what lies in what."""

from toldreasons.puzzles import fillings, questions


def pair_bits(puzzle):
    """A bit for each pair (cell, value) of the puzzle."""
    pairs = [(c, value) for c, domain in enumerate(puzzle[0]) for value in domain]
    return {pair: 1 << at for at, pair in enumerate(pairs)}


def mask_of(bits, part):
    """The bits of the pairs of a part."""
    return sum([bits[pair] for pair in part])


def asked_masks(puzzle, bits):
    """For each question, in order, the list of the masks of its fillings, in order."""
    return [[mask_of(bits, t) for t in fillings(puzzle, question)] for question in questions(puzzle)]


def holds_one(mask, others):
    """Whether one of the other masks lies in the mask."""
    for other in others:
        if other & mask == other:
            return True
    return False


def least_masks(masks):
    """Of the masks those in which no other one lies: what holds any of them holds one of these."""
    least = []
    # What lies in a mask is a lesser integer, so it comes ahead.
    for mask in sorted(masks):
        if not holds_one(mask, least):
            least.append(mask)
    return least


class Stand:
    """A part that stands while each question has an agreeing filling with which it holds nothing struck.

    What is struck stays struck; so a filling that has failed is not looked at again.
    """

    def __init__(self, bits, part, many):
        given = dict(part)
        self.part = part
        self.mask = mask_of(bits, part)
        # The pairs that no agreeing filling has.
        self.barred = sum([bit for (c, value), bit in bits.items() if given.get(c, value) != value])
        self.reached = [0] * many

    def has_lost(self, number, masks, struck):
        """Whether question number has no such filling any more."""
        at = self.reached[number]
        while at < len(masks) and (masks[at] & self.barred or holds_one(masks[at] | self.mask, struck)):
            at += 1
        self.reached[number] = at
        return at == len(masks)

    def lost_question(self, asked, struck):
        """The number of the first question without such a filling, None if each has one."""
        for number, masks in enumerate(asked):
            if self.has_lost(number, masks, struck):
                return number
        return None
