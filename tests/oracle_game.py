"""Games, strengths and their papers, by the words of the document ([5.3] to [6.4]): slow and plain, as oracle.py."""

from functools import lru_cache

import oracle


def is_move(puzzle, value):
    if type(value) is not tuple or len(value) != 3 or not oracle.is_question(puzzle, value[0]):
        return False
    if value[1] is None or value[2] is None:
        return value[1] is None and value[2] is None
    return oracle.is_part(puzzle, value[1]) and oracle.is_part(puzzle, value[2])


def judge_game(puzzle, k, start, value):
    if type(value) is not tuple:
        return ("form",)
    position, lost = start, False
    for i, move in enumerate(value):
        if not is_move(puzzle, move):
            return ("form", i)
        if lost:
            return ("behind", i)
        question, t, kept = move
        found = oracle.agreeing(puzzle, position, question)
        if t is None and not found:
            lost = True
        elif t not in found:
            return ("filling", i)
        elif len(kept) > k or not oracle.lies_in(kept, oracle.both(position, t)):
            return ("kept", i)
        else:
            position = kept
    return None


def asker_move(puzzle, k, rounds, position):
    for question in oracle.questions(puzzle):
        keeps = []
        for t in oracle.agreeing(puzzle, position, question):
            pieces = oracle.pieces(oracle.both(position, t), k)
            found = [piece for piece in pieces if rounds.get(piece, 99) < rounds[position]]
            keeps.append(min(found, key=lambda piece: rounds[piece]) if found else None)
        if None not in keeps:
            return (question, tuple(keeps))
    return None


def answerer_move(puzzle, k, rounds, position, question):
    for t in oracle.agreeing(puzzle, position, question):
        if not any(piece in rounds for piece in oracle.pieces(oracle.both(position, t), k)):
            return t
    return None


def can_be_lost(puzzle, k):
    """A function that tells whether some way of the asker's wins from a position in so many moves, whatever is told."""
    unions = lru_cache(None)(lambda position: oracle.table_of_unions(puzzle, position))

    @lru_cache(None)
    def within(position, moves):
        if moves == 0:
            return False
        return any(
            all(any(within(piece, moves - 1) for piece in oracle.pieces(union, k)) for union in row)
            for row in unions(position)
        )

    return within


def pairs(puzzle):
    return [(c, value) for c, domain in enumerate(puzzle[0]) for value in domain]


def verdict(puzzle, rounds):
    if () in rounds:
        return ("clash",)
    left = [[value for value in domain if ((c, value),) not in rounds] for c, domain in enumerate(puzzle[0])]
    if [len(values) for values in left] == [1] * len(left):
        return ("solved", tuple(values[0] for values in left))
    return ("open",)


def least_strength(puzzle, word):
    """The least strength with this verdict, None if there is none up to the number of cells."""
    for k in range(1, len(puzzle[0]) + 1):
        if verdict(puzzle, oracle.rounds(puzzle, k))[0] == word:
            return k
    return None


def next_reason(puzzle, known, most):
    found = []
    for k in range(1, most + 1):
        rounds = oracle.rounds(puzzle, k)
        found += [(k, rounds[(pair,)], pair) for pair in pairs(puzzle) if (pair,) in rounds and pair not in known]
    return min(found, default=None)


def joined(chains):
    """Chains put one behind another, each part once."""
    steps, numbers = [], {}
    for chain in chains:
        for part, question, uses in chain:
            if part not in numbers:
                numbers[part] = len(steps)
                steps.append((part, question, tuple(numbers[chain[use][0]] for use in uses)))
    return tuple(steps)


def has_paper_form(value):
    if type(value) is not tuple or not value or type(value[0]) is not str:
        return False
    if value[0] == "several":
        return len(value) == 3
    if (value[0], len(value)) not in (("clash", 4), ("solved", 6)) or not oracle.is_number(value[1]) or value[1] < 1:
        return False
    if value[1] > 1:
        return True
    return value[3] == () if value[0] == "clash" else value[4] == () and value[5] is None


def judge_strength(puzzle, value):
    if not has_paper_form(value):
        return ("form",)
    word = value[0]
    told = {"clash": (), "solved": value[2:3], "several": value[1:]}[word]
    if not all(oracle.judge_answer(puzzle, values) is None for values in told):
        return ("answer",)
    if word == "several":
        return ("answer",) if told[0] == told[1] else None
    k = value[1]
    if word == "clash":
        chain, book, wanted, held = value[2], value[3], [()], ()
    else:
        answer, chain, book, left = value[2:]
        others = [pair for pair in pairs(puzzle) if pair[1] != answer[pair[0]]]
        if k > 1 and not (oracle.is_tuple_of(left, oracle.is_number) and left in others):
            return ("form",)
        wanted, held = [(pair,) for pair in others], (left,)
    fault = oracle.judge_chain(puzzle, k, chain)
    if fault:
        return ("chain", fault)
    for part in sorted(wanted):
        if part not in [step[0] for step in chain]:
            return ("reach", part)
    if k > 1:
        fault = oracle.judge_book(puzzle, k - 1, book)
        if fault or held not in book:
            return ("book", fault or ("missing",))
    return None
