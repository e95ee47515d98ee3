"""What leads a puzzle to itself, the least form of puzzles that are alike, and grids that are turned."""

from itertools import permutations

from toldreasons.alike import all_values, cells_between, led, led_after, led_answer, led_domain, led_plain, led_table
from toldreasons.alike import leadings_between, lots_of_tables, plain
from toldreasons.answers import answers


def _own_ones(flat):
    """The leadings that lead a puzzle in its plain form to itself."""
    return leadings_between(flat, flat)


def own_leadings(puzzle):
    """The ascending tuple of all leadings that lead a puzzle to its plain form."""
    return tuple(sorted(_own_ones(plain(puzzle))))


def cell_lots(puzzle):
    """The ascending lots of cells that own leadings lead to one another."""
    ways = [cells for cells, _ in _own_ones(plain(puzzle))]
    return tuple(sorted(set([tuple(sorted(set(places))) for places in zip(*ways)])))


def _least_answers(puzzle, own):
    """The least answer of each lot of those that own leadings lead to one another, ascending."""
    reached = {}
    least = []
    for answer in answers(puzzle):
        if answer not in reached:
            least.append(answer)
            for leading in own:
                reached[led_answer(leading, answer)] = True
    return tuple(least)


def unlike_answers(puzzle):
    """The least answer of each lot of those that own leadings lead to one another, ascending."""
    return _least_answers(puzzle, _own_ones(plain(puzzle)))


def standing_pairs(puzzle):
    """How many pairs there are of an own leading and an answer that it leads to itself."""
    own = _own_ones(plain(puzzle))
    # Each lot of answers has as many such pairs as there are own leadings.
    return len(_least_answers(puzzle, own)) * len(own)


def _least_domains(flat):
    """The leadings to 0 and what follows that lead the domains to the least ones."""
    values = all_values(flat)
    numbers = list(range(len(values)))
    ways = [tuple(zip(values, order)) for order in permutations(numbers)]
    came = [[led_domain(domain, dict(way)) for domain in flat[0]] for way in ways]
    least = min([sorted(domains) for domains in came])
    found = []
    for way, domains in zip(ways, came):
        # Of a way to other domains no cells lead to the least ones.
        found.extend([(cells, way) for cells in cells_between(domains, least)])
    return found


def _unlike_ones(leadings, own):
    """One of each lot of the leadings that come to one puzzle: an own leading goes ahead of the one or the other."""
    reached = {}
    chosen = []
    for leading in leadings:
        if leading not in reached:
            chosen.append(leading)
            for ahead in own:
                reached[led_after(ahead, leading)] = True
    return chosen


# What is compared where some have one more table with the same cells: the others go on with greater cells.
_GREATER = ("table", (100,))


def _led_lot(lots, leading, at):
    """What comes as lot number at of the tables, by their cells."""
    cells, values = leading
    others = dict(values)
    places = sorted([(sorted([cells[c] for c in own]), own) for own in lots])
    lot = lots[places[at][1]]
    return sorted([led_table(table, cells, others) for table in lot]) + [_GREATER]


def least_leading(puzzle):
    """A leading that leads a puzzle to its least form."""
    flat = plain(puzzle)
    lots = lots_of_tables(flat[1])
    left = _unlike_ones(_least_domains(flat), _own_ones(flat))
    # Tables are led lot by lot, as most leadings come to greater ones early.
    for at in range(len(lots)):
        came = [_led_lot(lots, leading, at) for leading in left]
        least = min(came)
        left = [leading for leading, lot in zip(left, came) if lot == least]
    return left[0]


def least_form(puzzle):
    """Of all puzzles to which leadings lead a puzzle, the others being 0 and what follows, the least one."""
    return led(puzzle, least_leading(puzzle))


def _turned_place(w, h, turn, x, y):
    """The column and the row to which a turn leads column x and row y of w columns and h rows."""
    places = {
        "same": (x, y),
        "right": (h - 1 - y, x),
        "half": (w - 1 - x, h - 1 - y),
        "left": (y, w - 1 - x),
        "across": (w - 1 - x, y),
        "down": (x, h - 1 - y),
        "main": (y, x),
        "other": (h - 1 - y, w - 1 - x),
    }
    return places[turn]


_TURNS = ("same", "right", "half", "left", "across", "down", "main", "other")

_LAID_OVER = ("right", "left", "main", "other")


def turned_cells(w, h, turn):
    """The cells to which a turn leads those of a grid of w columns and h rows, in the grid that comes."""
    width = h if turn in _LAID_OVER else w
    places = [_turned_place(w, h, turn, x, y) for y in range(h) for x in range(w)]
    return tuple([y * width + x for x, y in places])


def _turned_plain(flat, w, h, turn):
    values = tuple([(value, value) for value in all_values(flat)])
    return led_plain(flat, (turned_cells(w, h, turn), values))


def turned(puzzle, w, h, turn):
    """What a turn of its grid leads a puzzle to, values as they are."""
    return _turned_plain(plain(puzzle), w, h, turn)


def own_turns(puzzle, w, h):
    """The turns that lead a puzzle to its plain form, in a grid of as many columns."""
    flat = plain(puzzle)
    turns = [turn for turn in _TURNS if w == h or turn not in _LAID_OVER]
    return tuple([turn for turn in turns if _turned_plain(flat, w, h, turn) == flat])
