"""What is read off the values of grids, and grids as texts."""

from toldreasons.errors import BadText
from toldreasons.kinds import cell_at, cells_about, column_cells, row_cells, side_ties
from toldreasons.rules import stretches
from toldreasons.texts import grid_text, read_grid


def run_lengths(values):
    """The lengths of the runs of values other than 0, in order."""
    return stretches(values)


def _rows_and_columns(grid, values):
    """The values of each row, and those of each column."""
    height, width = grid
    rows = [[values[cell] for cell in row_cells(grid, r)] for r in range(height)]
    columns = [[values[cell] for cell in column_cells(grid, c)] for c in range(width)]
    return (rows, columns)


def painted_by(grid, values):
    """The lengths of the runs of each row, and of each column."""
    rows, columns = _rows_and_columns(grid, values)
    return (tuple([stretches(row) for row in rows]), tuple([stretches(column) for column in columns]))


def _ones(values):
    """How many of the values are 1."""
    return len([value for value in values if value == 1])


def roaded_by(grid, values):
    """How many values 1 each row has, and each column."""
    rows, columns = _rows_and_columns(grid, values)
    return (tuple([_ones(row) for row in rows]), tuple([_ones(column) for column in columns]))


def mined_by(grid, values):
    """The ascending pairs of each cell that has 0 and of how many cells about it have 1."""
    free = [cell for cell, value in enumerate(values) if value == 0]
    return tuple([(cell, _ones([values[other] for other in cells_about(grid, cell)])) for cell in free])


def summed_by(lots, values):
    """The pairs of each lot of cells and the sum of its values."""
    return tuple([(cells, sum([values[cell] for cell in cells])) for cells in lots])


def signed_by(size, values):
    """The ascending pairs of cells that share a side, the value of the first one below that of the second."""
    ties = side_ties((size, size))
    pairs = ties + tuple([(j, i) for i, j in ties])
    return tuple(sorted([(i, j) for i, j in pairs if values[i] < values[j]]))


def shown(grid, values):
    """The text of a grid: each row's values with blanks between, a point for None."""
    part = [(cell, value) for cell, value in enumerate(values) if value is not None]
    return grid_text(len(values), grid[1], tuple(part))


def read_shown(grid, text):
    """The values that are shown so in any value, None if there are none."""
    try:
        n, width, part = read_grid(text)
    except BadText:
        return None
    if (n, width) != (grid[0] * grid[1], grid[1]) or not all([value <= 99 for _, value in part]):
        return None
    given = dict(part)
    return tuple([given.get(cell) for cell in range(n)])


_LETTERS = "abcdefghijklmnopqrstuvwxyz"


def lots_shown(grid, lots):
    """The text of a grid with a letter for each lot, at its cells, and points elsewhere."""
    letters = {cell: _LETTERS[k] for k, cells in enumerate(lots) for cell in cells}
    height, width = grid
    rows = [[letters.get(cell_at(grid, r, c), ".") for c in range(width)] for r in range(height)]
    return "\n".join(["".join(row) for row in rows])


def read_lots(grid, text):
    """The lots of cells that are shown so in any value, None if there are none."""
    height, width = grid
    rows = text.split("\n") if isinstance(text, str) else []
    if len(rows) != height or not all([len(row) == width for row in rows]):
        return None
    signs = "".join(rows)
    many = len(set(signs.replace(".", "")))
    lots = [tuple([cell for cell, sign in enumerate(signs) if sign == letter]) for letter in _LETTERS[:many]]
    # There are as many signs as letters looked for: so each of these stands somewhere, or another sign does.
    return None if () in lots else tuple(lots)
