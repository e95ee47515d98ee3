"""Values for the tests: right ones by a fixed sequence of dice, and wrong ones of every kind."""

import random
from itertools import combinations, product

BIG = 10 ** 59 + 7

STRANGE = (
    None, True, False, 0, 1, -1, 100, BIG, -BIG, "", "x", "cell", "cell 1", "\t\n~", "a" * 200,
    (), [], {}, (()), ((),), ((), ()), [()], [[], []], {0: 1}, {(): []}, (1,), (1, 2), [1, 2], (True, False),
    ("cell", 0), ("rule", 0), ("answer",), ("clash", 0), ("clash", True), ("empty", 0), ("cell", 0, ()),
    ("unlike", (0, 1)), (((1, 2), (1, 2)), ()), [((1,),), ()], (((1,),), []), ([(1,)], ()), (((True,),), ()),
    ((((0, 1), (1, 2)), ("rule", 0), ()),), (((), ("cell", 0), ()),), (((), ["cell", 0], ()),), (((), ({}, []), ()),),
)


def deep(kind, levels):
    """A value with so many of a kind within one another."""
    value = 1
    for _ in range(levels):
        value = {0: value, ("a", True): value} if kind is dict else kind((value,))
    return value


DEEP = tuple(deep(kind, 15) for kind in (tuple, list, dict)) + (deep(tuple, 20), deep(list, 20))


def changed(value):
    """All values that are unlike this one in one place, each in one small way."""
    for other in (None, True, False, -1, 0, 1, 100, BIG, "cell", (), []):
        yield other
    if isinstance(value, int):
        yield value + 1
        yield value - 1
        yield bool(value)
        yield str(value)
    if isinstance(value, tuple):
        yield list(value)
        yield value[::-1]
        yield value + value[:1]
        yield value[:1] + value
        yield value + (0,)
        yield value + ((),)
        for at, member in enumerate(value):
            yield value[:at] + value[at + 1:]
            for other in changed(member):
                yield value[:at] + (other,) + value[at + 1:]


def some(values, most, dice):
    """At most so many of the values, taken by the dice."""
    values = list(values)
    return values if len(values) <= most else dice.sample(values, most)


def picked(dice, members, least=0):
    """An ascending tuple of some of the members."""
    return tuple(sorted(dice.sample(list(members), dice.randint(least, len(members)))))


def made_rule(dice, domains, word):
    n = len(domains)
    pool = sorted({value for domain in domains for value in domain} | {0, 1})
    cells = tuple(dice.sample(range(n), dice.randint(1, min(n, 4))))
    if word == "below":
        return ("below", *dice.sample(range(n), 2)) if n > 1 else ("unlike", cells)
    if word == "table":
        rows = list(product(pool, repeat=len(cells)))
        return ("table", cells, picked(dice, dice.sample(rows, min(len(rows), 30))))
    if word == "sum":
        low = dice.randint(0, 3 * len(cells))
        return ("sum", cells, low, low + dice.randint(0, 4))
    if word == "count":
        low = dice.randint(0, 2)
        return ("count", cells, picked(dice, pool), low, low + dice.randint(0, 2))
    if word == "runs":
        return ("runs", cells, tuple(dice.randint(1, 2) for _ in range(dice.randint(0, 2))))
    if word == "joined":
        return ("joined", cells, picked(dice, list(combinations(sorted(cells), 2))), picked(dice, pool))
    return ("unlike", cells)


def made_puzzle(dice, most_cells=4, most_values=3, most_rules=4, empty=0.05):
    """A right puzzle; each domain is empty with this chance."""
    n = dice.randint(1, most_cells)
    pool = dice.choice([(0, 1, 2), (1, 2, 3), (0, 1, 5, 99)])
    domains = tuple(
        () if dice.random() < empty else tuple(sorted(dice.sample(pool, dice.randint(1, most_values))))
        for _ in range(n)
    )
    words = ("table", "unlike", "sum", "count", "below", "runs", "joined")
    rules = tuple(made_rule(dice, domains, dice.choice(words)) for _ in range(dice.randint(0, most_rules)))
    return (domains, rules)


def made_puzzles(seed, many, **bounds):
    """So many puzzles, always the same ones for one seed."""
    dice = random.Random(seed)
    return [made_puzzle(dice, **bounds) for _ in range(many)]


PAIR = (((0, 1), (0, 1)), (("below", 0, 1),))
TRIO = (((1, 2), (1, 2), (1, 2)), (("unlike", (0, 1)), ("unlike", (1, 2)), ("unlike", (0, 2))))
FREE = (((1, 2), (1, 2)), (("unlike", (0, 1)),))
TOLD = (((1, 2), (1, 2), (1, 2, 3)), (("unlike", (0, 1, 2)), ("below", 0, 1)))
BARE = (((4,), (2, 7)), ())
EMPTY = (((1, 2), (), (3,)), (("unlike", (0, 2)), ("sum", (1, 0), 0, 9)))
KINDS = (
    ((0, 1, 2), (0, 1, 2), (0, 1, 2), (0, 1)),
    (
        ("table", (2, 0), ((0, 1), (1, 2), (2, 0))),
        ("unlike", (1, 0)),
        ("sum", (3, 1, 2), 2, 4),
        ("count", (0, 1, 2), (1, 2), 1, 2),
        ("below", 3, 1),
        ("runs", (3, 2, 1, 0), (2,)),
        ("joined", (0, 3, 2, 1), ((0, 1), (1, 3)), (1, 2)),
    ),
)
PUZZLES = (PAIR, TRIO, FREE, TOLD, BARE, EMPTY, KINDS)
