"""The languages of [2.1], [2.3] and [14.1] as sets of states, so that the longest beginning can be told without reading.

A pattern is a function that takes the number of a state behind it and returns the one
ahead of it; every state leads to an end, so a beginning is one of some text exactly if
a state is left behind it.
"""

DIGITS = "0123456789"


class Language:
    def __init__(self, build):
        self.signs = [{}]
        self.free = [[]]
        self.end = 0
        self.start = build(self)(self.end)
        self.known = {}

    def state(self, signs=(), free=(), to=0):
        self.signs.append({sign: to for sign in signs})
        self.free.append(list(free))
        return len(self.signs) - 1

    def text(self, text):
        def ahead(behind):
            for sign in reversed(text):
                behind = self.state(signs=sign, to=behind)
            return behind
        return ahead

    def one_of(self, signs):
        return lambda behind: self.state(signs=signs, to=behind)

    def chain(self, *patterns):
        def ahead(behind):
            for pattern in reversed(patterns):
                behind = pattern(behind)
            return behind
        return ahead

    def either(self, *patterns):
        return lambda behind: self.state(free=[pattern(behind) for pattern in patterns])

    def maybe(self, pattern):
        return lambda behind: self.state(free=[pattern(behind), behind])

    def often(self, pattern):
        def ahead(behind):
            loop = self.state(free=[behind])
            self.free[loop].append(pattern(loop))
            return loop
        return ahead

    def listed(self, pattern, between=" "):
        return self.chain(pattern, self.often(self.chain(self.text(between), pattern)))

    def number(self):
        more = self.text("")
        for _ in range(8):
            more = self.maybe(self.chain(self.one_of(DIGITS), more))
        return self.either(self.text("0"), self.chain(self.one_of(DIGITS[1:]), more))

    def closed(self, states):
        found, waiting = set(states), list(states)
        while waiting:
            for other in self.free[waiting.pop()]:
                if other not in found:
                    found.add(other)
                    waiting.append(other)
        return frozenset(found)

    def step(self, states, sign):
        if (states, sign) not in self.known:
            following = {self.signs[state][sign] for state in states if sign in self.signs[state]}
            self.known[(states, sign)] = self.closed(following)
        return self.known[(states, sign)]

    def place(self, text):
        """None if the text is of the language, else the length of its longest beginning that begins one of it."""
        states = self.closed([self.start])
        for at, sign in enumerate(text):
            states = self.step(states, sign)
            if not states:
                return at
        return None if self.end in states else len(text)


def rule_pattern(made):
    numbers = made.listed(made.number())
    nothing = made.text("-")
    values = made.either(nothing, numbers)
    span = made.chain(made.text(" from "), made.number(), made.text(" to "), made.number())
    tie = made.chain(made.number(), made.text("-"), made.number())
    rows = made.either(nothing, made.listed(numbers, ", "))
    return made.either(
        made.chain(made.text("table "), numbers, made.text(" rows "), rows),
        made.chain(made.text("unlike "), numbers),
        made.chain(made.text("sum "), numbers, span),
        made.chain(made.text("count "), numbers, made.text(" of "), values, span),
        made.chain(made.text("below "), made.number(), made.text(" "), made.number()),
        made.chain(made.text("runs "), numbers, made.text(" of "), values),
        made.chain(made.text("joined "), numbers, made.text(" ties "), made.either(nothing, made.listed(tie)),
                   made.text(" of "), values),
    )


def puzzle_pattern(made):
    cell = made.chain(made.text("cell "), made.either(made.text("-"), made.listed(made.number())))
    rule = rule_pattern(made)
    return made.chain(cell, made.often(made.chain(made.text("\n"), cell)), made.often(made.chain(made.text("\n"), rule)))


def grid_pattern(width):
    """The grids whose first line has this many cells."""
    def build(made):
        cell = made.either(made.text("."), made.number())

        def row(many):
            return made.chain(cell, *[made.chain(made.text(" "), cell) for _ in range(many - 1)])
        full = made.chain(row(width), made.often(made.chain(made.text("\n"), row(width))))
        last = made.either(*[made.chain(made.text("\n"), row(many)) for many in range(1, width + 1)])
        return made.chain(full, made.maybe(last))
    return build


RULE = Language(rule_pattern)
PUZZLE = Language(puzzle_pattern)
GRIDS = tuple(Language(grid_pattern(width)) for width in range(1, 9))


def grid_place(text):
    """As Language.place, of grids of at most eight columns."""
    places = [language.place(text) for language in GRIDS]
    return None if None in places else max(places)


def deed_pattern(made):
    words = made.either(made.text("strike "), made.text("raise "), made.text("set "))
    return made.chain(words, made.number(), made.text(" "), made.number())


def log_pattern(made):
    return made.maybe(made.listed(deed_pattern(made), "\n"))


DEED = Language(deed_pattern)
LOG = Language(log_pattern)
