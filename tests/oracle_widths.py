"""Ties, orders, lots and runaways, by the words of the document ([7.1] to [7.6]): slow and plain, as oracle.py."""

from itertools import combinations, permutations

import oracle


def ties_of(n, edges):
    return tuple(tuple(sorted({a + b - c for a, b in edges if c in (a, b)})) for c in range(n))


def some_ties(dice, most):
    n = dice.randint(0, most)
    chance = dice.random()
    return ties_of(n, [edge for edge in combinations(range(n), 2) if dice.random() < chance])


def is_lot(value, n):
    return oracle.is_tuple_of(value, lambda cell: oracle.is_number(cell) and 0 <= cell < n) and oracle.rises(value)


def is_ties(value):
    if type(value) is not tuple or len(value) > 16 or not all(is_lot(others, len(value)) for others in value):
        return False
    return all(c != other and c in value[other] for c in range(len(value)) for other in value[c])


def neighbours(puzzle):
    lots = [set(oracle.cells_of(rule)) for rule in puzzle[1]]
    cells = range(len(puzzle[0]))
    return tuple(tuple(b for b in cells if a != b and any({a, b} <= lot for lot in lots)) for a in cells)


def taken_off(ties, cell, left):
    edges = {(a, b) for a in range(len(ties)) for b in ties[a] if a < b}
    around = [other for other in left if other in ties[cell]]
    edges |= set(combinations(sorted(around), 2))
    return ties_of(len(ties), [edge for edge in edges if cell not in edge])


def bags_of(ties, order):
    bags = []
    for i, cell in enumerate(order):
        bags.append((cell, ties[cell]))
        ties = taken_off(ties, cell, sorted(order[i:]))
    return tuple(bags)


def width_of(ties, order):
    return max((len(bag) for cell, bag in bags_of(ties, order)), default=0)


def least_width(ties):
    return min((width_of(ties, order), order) for order in permutations(range(len(ties))))


def has_way(ties, a, b, through):
    """Whether a way leads from a to b, all cells between which are in through."""
    near = {a}
    while True:
        more = near | {other for c in near if c == a or c in through for other in ties[c]}
        if more == near:
            return b in near
        near = more


def bag_behind(ties, gone, cell):
    return tuple(c for c in range(len(ties)) if c != cell and c not in gone and has_way(ties, cell, c, gone))


def next_lots(ties, w, gone):
    others = [c for c in range(len(ties)) if c not in gone]
    return [(c, tuple(sorted(gone + (c,)))) for c in others if len(bag_behind(ties, gone, c)) < w]


def lots_within(ties, w):
    found = {()}
    while True:
        more = found | {lot for gone in found for c, lot in next_lots(ties, w, gone)}
        if more == found:
            return tuple(sorted(found))
        found = more


def judge_lots(ties, w, value):
    if not oracle.is_tuple_of(value, lambda lot: is_lot(lot, len(ties))) or not oracle.rises(value):
        return ("form",)
    if () not in value:
        return ("start",)
    if tuple(range(len(ties))) in value:
        return ("all",)
    faults = [("next", gone, c) for gone in value for c, lot in next_lots(ties, w, gone) if lot not in value]
    return faults[0] if faults else None


def judge_width(ties, value):
    n = len(ties)
    if type(value) is not tuple or len(value) != 3 or not oracle.is_number(value[0]) or value[0] < 0:
        return ("form",)
    width, order, lots = value
    if not oracle.is_tuple_of(order, oracle.is_number) or order not in set(permutations(range(n))):
        return ("form",)
    if type(lots) is not tuple or (width == 0 and lots != ()):
        return ("form",)
    if width_of(ties, order) != width:
        return ("width", width_of(ties, order))
    fault = judge_lots(ties, width, lots) if width else None
    return ("lots", fault) if fault else None


def places(ties, shut):
    free = [c for c in range(len(ties)) if c not in shut]
    return {tuple(b for b in free if a == b or has_way(ties, a, b, free)) for a in free}


def stands(ties, w):
    shuts = [shut for size in range(w + 1) for shut in combinations(range(len(ties)), size)]
    return sorted((shut, place) for shut in shuts for place in places(ties, shut))


def broken_cell(ties, w, stand, there):
    """The least cell by which a stand breaks (i), else (ii), given the places of those that are there by what is shut."""
    shut, place = stand
    for c in range(len(ties)):
        if len(shut) < w and c not in shut:
            more = tuple(sorted(shut + (c,)))
            if not any(set(other) <= set(place) for other in there.get(more, ())):
                return c
    for c in shut:
        fewer = tuple(other for other in shut if other != c)
        around = [other for other in places(ties, fewer) if set(place) <= set(other)]
        if around[0] not in there.get(fewer, ()):
            return c
    return None


def by_shut(some):
    there = {}
    for shut, place in some:
        there.setdefault(shut, []).append(place)
    return there


def runaway(ties, w):
    """One stand is struck at a time, the last one of those that break the words."""
    left = stands(ties, w)
    while True:
        there = by_shut(left)
        broken = [stand for stand in left if broken_cell(ties, w, stand, there) is not None]
        if not broken:
            return tuple(left)
        left.remove(broken[-1])


def judge_runaway(ties, w, value):
    n = len(ties)
    if not oracle.is_tuple_of(value, lambda pair: oracle.is_tuple_of(pair, lambda lot: is_lot(lot, n)) and len(pair) == 2):
        return ("form",)
    if not oracle.rises(value) or value == ():
        return ("form",)
    for k, (shut, place) in enumerate(value):
        if len(shut) > w or place not in places(ties, shut):
            return ("stand", k)
    there = by_shut(value)
    for k, stand in enumerate(value):
        if broken_cell(ties, w, stand, there) is not None:
            return ("shut", k, broken_cell(ties, w, stand, there))
    return None


def along(puzzle, order, k, rounds):
    if () in rounds:
        return None
    chosen = {}
    for cell, bag in reversed(bags_of(neighbours(puzzle), order)):
        parts = [tuple(sorted([(cell, value)] + [(other, chosen[other]) for other in bag])) for value in puzzle[0][cell]]
        found = [dict(part)[cell] for part in parts if len(part) <= k and part not in rounds]
        if not found:
            return None
        chosen[cell] = found[0]
    return tuple(chosen[c] for c in sorted(chosen))
