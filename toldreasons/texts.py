"""Puzzles, rules and grids as texts, and read again."""

from toldreasons.errors import BadText


class Reader:
    """A text that is read from its beginning; place is the number of its signs that have been read.

    Whatever stands ahead of place is a beginning of some text that can be read, so
    the error at the first sign that cannot follow tells the right place.
    """

    def __init__(self, text):
        # What is no text is read like an empty one: both fail at place 0.
        self.text = text if isinstance(text, str) else ""
        self.place = 0

    def ends(self):
        """Whether all signs have been read."""
        return self.place == len(self.text)

    def sees(self, sign):
        """Whether this sign comes now."""
        return not self.ends() and self.text[self.place] == sign

    def sees_digit(self):
        """Whether a digit comes now."""
        return not self.ends() and "0" <= self.text[self.place] <= "9"

    def take(self, words):
        """The one of the words, of which none begins another one, that comes now."""
        start = self.place
        read = ""
        while read not in words:
            longer = self.text[start:self.place + 1]
            if self.ends() or not any(word.startswith(longer) for word in words):
                raise BadText(self.place)
            read = longer
            self.place += 1
        return read

    def number(self):
        """The integer that comes now: without needless noughts, of at most nine digits."""
        start = self.place
        if not self.sees_digit():
            raise BadText(self.place)
        most = 1 if self.sees("0") else 9
        while self.sees_digit() and self.place - start < most:
            self.place += 1
        return int(self.text[start:self.place])

    def shut(self):
        """Nothing may come any more."""
        if not self.ends():
            raise BadText(self.place)


def _spaced(numbers):
    return " ".join(str(number) for number in numbers)


def _spaced_or_none(numbers):
    if len(numbers) == 0:
        return "-"
    return _spaced(numbers)


def _rows_text(rows):
    if len(rows) == 0:
        return "-"
    return ", ".join(_spaced(row) for row in rows)


def _ties_text(ties):
    if len(ties) == 0:
        return "-"
    return " ".join(f"{one}-{other}" for one, other in ties)


def rule_text(rule):
    """The line of a rule."""
    word = rule[0]
    if word == "below":
        return f"below {rule[1]} {rule[2]}"
    head = f"{word} {_spaced(rule[1])}"
    if word == "table":
        return f"{head} rows {_rows_text(rule[2])}"
    if word == "sum":
        return f"{head} from {rule[2]} to {rule[3]}"
    if word == "count":
        return f"{head} of {_spaced_or_none(rule[2])} from {rule[3]} to {rule[4]}"
    if word == "runs":
        return f"{head} of {_spaced_or_none(rule[2])}"
    if word == "joined":
        return f"{head} ties {_ties_text(rule[2])} of {_spaced_or_none(rule[3])}"
    return head


def puzzle_text(puzzle):
    """The text of a puzzle: a line for each cell, and behind them one for each rule."""
    lines = [f"cell {_spaced_or_none(domain)}" for domain in puzzle[0]]
    return "\n".join(lines + [rule_text(rule) for rule in puzzle[1]])


def _read_number(reader):
    return reader.number()


def _read_tie(reader):
    one = reader.number()
    reader.take(("-",))
    return (one, reader.number())


def _listed(reader, read_one):
    """One or more of a kind with single blanks between, as long as a blank comes."""
    found = [read_one(reader)]
    while reader.sees(" "):
        reader.take((" ",))
        found.append(read_one(reader))
    return tuple(found)


def _listed_to(reader, read_one, stop):
    """One or more of a kind with a blank behind each, and behind them the word stop and a blank."""
    found = []
    while not found or reader.sees_digit():
        found.append(read_one(reader))
        reader.take((" ",))
    reader.take((stop + " ",))
    return tuple(found)


def _none_here(reader):
    """Whether the sign for () comes now; it is read then."""
    if not reader.sees("-"):
        return False
    reader.take(("-",))
    return True


def _listed_or_none(reader):
    if _none_here(reader):
        return ()
    return _listed(reader, _read_number)


def _listed_or_none_to(reader, read_one, stop):
    if _none_here(reader):
        reader.take((f" {stop} ",))
        return ()
    return _listed_to(reader, read_one, stop)


def _read_span(reader):
    """LOW and HIGH with the word between them."""
    low = reader.number()
    reader.take((" to ",))
    return (low, reader.number())


def _read_rows(reader):
    if _none_here(reader):
        return ()
    rows = [_listed(reader, _read_number)]
    while reader.sees(","):
        reader.take((", ",))
        rows.append(_listed(reader, _read_number))
    return tuple(rows)


def _read_table(reader):
    cells = _listed_to(reader, _read_number, "rows")
    return ("table", cells, _read_rows(reader))


def _read_unlike(reader):
    return ("unlike", _listed(reader, _read_number))


def _read_sum(reader):
    cells = _listed_to(reader, _read_number, "from")
    low, high = _read_span(reader)
    return ("sum", cells, low, high)


def _read_count(reader):
    cells = _listed_to(reader, _read_number, "of")
    values = _listed_or_none_to(reader, _read_number, "from")
    low, high = _read_span(reader)
    return ("count", cells, values, low, high)


def _read_below(reader):
    cell = reader.number()
    reader.take((" ",))
    return ("below", cell, reader.number())


def _read_runs(reader):
    cells = _listed_to(reader, _read_number, "of")
    return ("runs", cells, _listed_or_none(reader))


def _read_joined(reader):
    cells = _listed_to(reader, _read_number, "ties")
    ties = _listed_or_none_to(reader, _read_tie, "of")
    return ("joined", cells, ties, _listed_or_none(reader))


_KINDS = {
    "table ": _read_table,
    "unlike ": _read_unlike,
    "sum ": _read_sum,
    "count ": _read_count,
    "below ": _read_below,
    "runs ": _read_runs,
    "joined ": _read_joined,
}

_CELL = "cell "


def _read_kind(reader, word):
    """The rule that goes on behind its word."""
    read_rest = _KINDS[word]
    return read_rest(reader)


def read_rule(text):
    """The rule that is written in any value; raises BadText where none is."""
    reader = Reader(text)
    rule = _read_kind(reader, reader.take(list(_KINDS)))
    reader.shut()
    return rule


def read_puzzle(text):
    """The puzzle that is written in any value; raises BadText where none is."""
    reader = Reader(text)
    domains = []
    rules = []
    words = [_CELL]
    while not domains or not reader.ends():
        if domains:
            reader.take(("\n",))
        word = reader.take(words)
        if word == _CELL:
            domains.append(_listed_or_none(reader))
            words = [_CELL] + list(_KINDS)
        else:
            rules.append(_read_kind(reader, word))
            words = list(_KINDS)
    return (tuple(domains), tuple(rules))


def grid_text(n, width, f):
    """The grid of the part f for n cells in rows of width cells."""
    given = dict(f)
    signs = [str(given.get(cell, ".")) for cell in range(n)]
    return "\n".join(" ".join(signs[start:start + width]) for start in range(0, n, width))


def _read_place(reader):
    """The value in a grid's cell, None for a cell without one."""
    if reader.sees("."):
        reader.take((".",))
        return None
    return reader.number()


def _read_grid_row(reader, most):
    """The cells of a row, which are no more than most; None bounds nothing."""
    row = [_read_place(reader)]
    while reader.sees(" ") and len(row) != most:
        reader.take((" ",))
        row.append(_read_place(reader))
    return row


def read_grid(text):
    """The triple (n, width, part) of the grid in any value; raises BadText where none is."""
    reader = Reader(text)
    row = _read_grid_row(reader, None)
    width = len(row)
    found = list(row)
    # Only behind a full row may another one come.
    while len(row) == width and not reader.ends():
        reader.take(("\n",))
        row = _read_grid_row(reader, width)
        found.extend(row)
    reader.shut()
    return (len(found), width, tuple([(cell, value) for cell, value in enumerate(found) if value is not None]))
