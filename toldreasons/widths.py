"""Widths: cells taken off with few neighbours, papers that no order does with fewer, and what follows for strengths."""

from toldreasons.books import greatest_book
from toldreasons.rules import cells_of, is_cell, is_rising, is_whole


def neighbours(puzzle):
    """For each cell the ascending cells that stand in one rule with it."""
    found = [{} for _ in puzzle[0]]
    for rule in puzzle[1]:
        cells = cells_of(rule)
        for cell in cells:
            for other in cells:
                if other != cell:
                    found[cell][other] = True
    return tuple([tuple(sorted(others)) for others in found])


def _is_lot(value, n):
    """Whether any value is an ascending tuple of unlike ones of n cells."""
    return isinstance(value, tuple) and all([is_cell(cell, n) for cell in value]) and is_rising(value)


def is_ties(value):
    """Whether any value is ties of at most sixteen cells."""
    if not isinstance(value, tuple) or len(value) > 16:
        return False
    if not all([_is_lot(others, len(value)) for others in value]):
        return False
    return all([c != other and c in value[other] for c, others in enumerate(value) for other in others])


def taken_off(ties, cell, left):
    """The ties behind the taking off of a cell, of those that are left."""
    bag = [other for other in ties[cell] if other in left]
    behind = []
    for c, others in enumerate(ties):
        more = bag if c in bag else []
        found = [other for other in sorted(set(others) | set(more)) if other not in (c, cell)]
        behind.append(() if c == cell else tuple(found))
    return tuple(behind)


def bags_of(ties, order):
    """The pairs of each cell, in this sequence, and of its bag: the neighbours that it has when it is taken off."""
    bags = []
    held = ties
    for i, cell in enumerate(order):
        bags.append((cell, held[cell]))
        held = taken_off(held, cell, tuple(sorted(order[i:])))
    return tuple(bags)


def width_of(ties, order):
    """The greatest number of cells in a bag of an order."""
    return max([len(bag) for _, bag in bags_of(ties, order)], default=0)


def _reached(ties, start, through):
    """The cells to which there is a way from start, all cells between which are among those to go through."""
    reached = {start: True}
    waiting = [start]
    while waiting:
        cell = waiting.pop()
        for other in ties[cell]:
            if other not in reached:
                reached[other] = True
                if other in through:
                    waiting.append(other)
    return sorted(reached)


def bag_behind(ties, gone, cell):
    """The bag of a cell when those that are gone, and no others, have been taken off."""
    return tuple([other for other in _reached(ties, cell, gone) if other != cell and other not in gone])


def _with_cell(lot, cell):
    return tuple(sorted(lot + (cell,)))


def _steps_from(ties, gone):
    """The pairs of each cell that is not gone, ascending, and of how many cells its bag has."""
    return [(c, len(bag_behind(ties, gone, c))) for c in range(len(ties)) if c not in gone]


def _widths_behind(ties):
    """For each lot of cells: the least width with which the others can be taken off when it is gone."""
    lots = [()]
    for c in range(len(ties)):
        lots = lots + [lot + (c,) for lot in lots]
    widths = {}
    # A lot with one cell more stands behind, so it is asked first.
    for gone in reversed(lots):
        steps = _steps_from(ties, gone)
        widths[gone] = min([max(many, widths[_with_cell(gone, c)]) for c, many in steps], default=0)
    return widths


def least_width(ties):
    """The least width of all orders, and the first order that has it."""
    widths = _widths_behind(ties)
    width = widths[()]
    order = ()
    gone = ()
    while len(order) < len(ties):
        steps = [c for c, many in _steps_from(ties, gone) if many <= width and widths[_with_cell(gone, c)] <= width]
        order = order + (steps[0],)
        gone = _with_cell(gone, steps[0])
    return (width, order)


def _next_lots(ties, w, gone):
    """The pairs of each cell whose bag has fewer than w cells, ascending, and of the lot with it."""
    return [(c, _with_cell(gone, c)) for c, many in _steps_from(ties, gone) if many < w]


def lots_within(ties, w):
    """The ascending tuple of all lots to which taking off with bags of fewer than w cells comes."""
    found = {(): True}
    waiting = [()]
    while waiting:
        gone = waiting.pop()
        for _, lot in _next_lots(ties, w, gone):
            if lot not in found:
                found[lot] = True
                waiting.append(lot)
    return tuple(sorted(found))


def _is_lots(value, n):
    """Whether any value is an ascending tuple of unlike lots of n cells."""
    return isinstance(value, tuple) and all([_is_lot(lot, n) for lot in value]) and is_rising(value)


def judge_lots(ties, w, value):
    """None if any value is lots of w, else its first fault."""
    if not _is_lots(value, len(ties)):
        return ("form",)
    if () not in value:
        return ("start",)
    if tuple(range(len(ties))) in value:
        return ("all",)
    there = {lot: True for lot in value}
    for gone in value:
        for c, lot in _next_lots(ties, w, gone):
            if lot not in there:
                return ("next", gone, c)
    return None


def width_paper(ties):
    """The least width with an order, and the lots that show that no lesser one can be."""
    width, order = least_width(ties)
    return (width, order, lots_within(ties, width) if width > 0 else ())


def _is_order(value, n):
    if not isinstance(value, tuple) or not all([is_cell(cell, n) for cell in value]):
        return False
    return sorted(value) == list(range(n))


def _is_width_paper(value, n):
    if not isinstance(value, tuple) or len(value) != 3:
        return False
    width, order, lots = value
    if not is_whole(width) or width < 0 or not _is_order(order, n) or not isinstance(lots, tuple):
        return False
    return width > 0 or lots == ()


def judge_width(ties, value):
    """None if any value is a paper of the least width, else its first fault."""
    if not _is_width_paper(value, len(ties)):
        return ("form",)
    width, order, lots = value
    other = width_of(ties, order)
    if other != width:
        return ("width", other)
    fault = judge_lots(ties, width, lots) if width > 0 else None
    return None if fault is None else ("lots", fault)


def _place_of(ties, shut, cell):
    """The place of a cell that is not shut."""
    free = [c for c in range(len(ties)) if c not in shut]
    return tuple([c for c in _reached(ties, cell, free) if c not in shut])


def _places(ties, shut, told):
    """The places that shut cells leave; told keeps them, as each is asked for often."""
    if shut not in told:
        places = [_place_of(ties, shut, c) for c in range(len(ties)) if c not in shut]
        told[shut] = sorted(set(places))
    return told[shut]


def _all_stands(ties, w, told):
    """All stands with at most w cells shut, ascending."""
    shuts = [()]
    for c in range(len(ties)):
        shuts = shuts + [shut + (c,) for shut in shuts if len(shut) < w]
    return sorted([(shut, place) for shut in shuts for place in _places(ties, shut, told)])


def _has_within(place, others):
    """Whether all cells of one of the other places are in a place."""
    return any([all([c in place for c in other]) for other in others])


def _broken_cell(ties, w, stand, stands, told):
    """The least cell by which a stand breaks (i), or, if it does not, (ii); None if it breaks neither."""
    shut, place = stand
    for c in range(len(ties)):
        if len(shut) < w and c not in shut:
            more = _with_cell(shut, c)
            if not _has_within(place, [other for other in _places(ties, more, told) if (more, other) in stands]):
                return c
    for c in shut:
        fewer = tuple([cell for cell in shut if cell != c])
        around = [other for other in _places(ties, fewer, told) if place[0] in other][0]
        if (fewer, around) not in stands:
            return c
    return None


def runaway(ties, w):
    """The ascending tuple of all stands that are in some runaway of w."""
    told = {}
    stands = _all_stands(ties, w, told)
    many = -1
    while len(stands) != many:
        many = len(stands)
        there = {stand: True for stand in stands}
        stands = [stand for stand in stands if _broken_cell(ties, w, stand, there, told) is None]
    return tuple(stands)


def _is_pair_of_lots(value, n):
    return isinstance(value, tuple) and len(value) == 2 and _is_lot(value[0], n) and _is_lot(value[1], n)


def judge_runaway(ties, w, value):
    """None if any value is a runaway of w, else its first fault."""
    n = len(ties)
    if not isinstance(value, tuple) or len(value) == 0 or not all([_is_pair_of_lots(pair, n) for pair in value]):
        return ("form",)
    if not is_rising(value):
        return ("form",)
    told = {}
    for k, (shut, place) in enumerate(value):
        if len(shut) > w or place not in _places(ties, shut, told):
            return ("stand", k)
    there = {stand: True for stand in value}
    for k, stand in enumerate(value):
        c = _broken_cell(ties, w, stand, there, told)
        if c is not None:
            return ("shut", k, c)
    return None


def _value_within(domain, cell, given, book):
    """The least value of a cell of which the part with those given is in the book, None without one."""
    for value in domain:
        if tuple(sorted(given + [(cell, value)])) in book:
            return value
    return None


def along(puzzle, order, k):
    """The answer that comes when the cells are set from the last to the first one of an order, by the greatest book."""
    book = {part: True for part in greatest_book(puzzle, k)}
    if () not in book:
        return None
    chosen = {}
    for cell, bag in reversed(bags_of(neighbours(puzzle), order)):
        value = _value_within(puzzle[0][cell], cell, [(other, chosen[other]) for other in bag], book)
        if value is None:
            return None
        chosen[cell] = value
    return tuple([chosen[cell] for cell in range(len(puzzle[0]))])
