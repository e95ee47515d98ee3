"""Kinds of puzzles on grids: how their cells lie, and the puzzles with their rules."""


def cell_at(grid, r, c):
    """The cell in row r and column c."""
    return r * grid[1] + c


def place_of(grid, cell):
    """The row and the column of a cell."""
    return divmod(cell, grid[1])


def row_cells(grid, r):
    """The ascending cells of a row."""
    return tuple([cell_at(grid, r, c) for c in range(grid[1])])


def column_cells(grid, c):
    """The ascending cells of a column."""
    return tuple([cell_at(grid, r, c) for r in range(grid[0])])


def _cells_within(grid, rows, columns):
    return tuple([cell_at(grid, r, c) for r in rows for c in columns])


def box_lots(grid, tall, wide):
    """The boxes of so many rows and columns into which the grid falls, by their least cells."""
    height, width = grid
    corners = [(r, c) for r in range(0, height, tall) for c in range(0, width, wide)]
    return tuple([_cells_within(grid, list(range(r, r + tall)), list(range(c, c + wide))) for r, c in corners])


def _all_cells(grid):
    return tuple(range(grid[0] * grid[1]))


def _gaps(grid, one, other):
    """How many rows and how many columns lie between two cells."""
    r, c = place_of(grid, one)
    row, column = place_of(grid, other)
    return (abs(r - row), abs(c - column))


def side_ties(grid):
    """The ascending pairs of cells that share a side."""
    cells = _all_cells(grid)
    return tuple([(i, j) for i in cells for j in cells if i < j and sum(_gaps(grid, i, j)) == 1])


def cells_about(grid, cell):
    """The ascending cells that touch a cell by a side or a corner."""
    return tuple([other for other in _all_cells(grid) if max(_gaps(grid, cell, other)) == 1])


def _row_lots(grid):
    """The cells of each row."""
    return [row_cells(grid, r) for r in range(grid[0])]


def _column_lots(grid):
    """The cells of each column."""
    return [column_cells(grid, c) for c in range(grid[1])]


def _same_domains(grid, low, high):
    """The domains of a grid in which each cell has the values from low to high."""
    return tuple([tuple(range(low, high + 1)) for _ in _all_cells(grid)])


def squares(size):
    """The puzzle of a square with unlike values from 1 to its size in each row and column."""
    grid = (size, size)
    rules = [("unlike", cells) for cells in _row_lots(grid) + _column_lots(grid)]
    return (_same_domains(grid, 1, size), tuple(rules))


def boxed(tall, wide):
    """Such a square with unlike values in each of its boxes, too."""
    size = tall * wide
    domains, rules = squares(size)
    return (domains, rules + tuple([("unlike", cells) for cells in box_lots((size, size), tall, wide)]))


def signed(size, pairs):
    """Such a square in which the value of the first cell of each pair is below that of the second one."""
    domains, rules = squares(size)
    return (domains, rules + tuple([("below", i, j) for i, j in pairs]))


def summed(grid, most, lots):
    """The puzzle of values from 1 to most whose lots of cells have unlike values with a total."""
    rules = []
    for cells, total in lots:
        rules.append(("unlike", cells))
        rules.append(("sum", cells, total, total))
    return (_same_domains(grid, 1, most), tuple(rules))


def painted(grid, rows, columns):
    """The puzzle of painted runs whose lengths are told for each row and each column."""
    lots = _row_lots(grid) + _column_lots(grid)
    rules = [("runs", cells, lengths) for cells, lengths in zip(lots, rows + columns)]
    return (_same_domains(grid, 0, 1), tuple(rules))


def mined(grid, told):
    """The puzzle of mines of which some free cells tell how many are about them."""
    free = [cell for cell, _ in told]
    domains = [(0,) if cell in free else (0, 1) for cell in _all_cells(grid)]
    lots = [(cells_about(grid, cell), number) for cell, number in told]
    rules = [("count", cells, (1,), number, number) for cells, number in lots if len(cells) > 0]
    return (tuple(domains), tuple(rules))


def roaded(grid, rows, columns):
    """The puzzle of one road, told how many of its cells each row and each column has."""
    lots = _row_lots(grid) + _column_lots(grid)
    counts = [("count", cells, (1,), number, number) for cells, number in zip(lots, rows + columns)]
    joined = ("joined", _all_cells(grid), side_ties(grid), (1,))
    return (_same_domains(grid, 0, 1), tuple(counts) + (joined,))
