"""The entries of formulas, told place by place as sums of multiples.

What is remembered of entries is a *row* of numbers: first the number 1, then the coordinates that are given out here.
The coordinate of what is not there is 0. The entry of a formula at the place that is told, and the row behind this
place, are sums of multiples of the row ahead of it (its coordinates are the unknowns from 0 on) and of the entries of
the letters at the place that is read (the unknowns -1, -2, ..), fixed by what `Cells` tell.
"""

from seriesforms.terms import minus, multiple, nothing, plus, unknown


class Rows:
    """The numbers of some formulas; all are asked for before the first place is read."""

    def __init__(self, names, cells):
        self._indexes = {name: index for index, name in enumerate(names)}
        self._cells = cells
        self._entries = []
        self._of_texts = {}
        self._of_lines = {}
        self._lines = {}
        self._wide = 1

    def entry(self, formula):
        """The index of the entry of the formula."""
        text = str(formula)
        if text not in self._of_texts:
            self._of_texts[text] = self._new_entry(formula)
        return self._of_texts[text]

    def aligned(self, formula, lead):
        """The index of the entry of the formula, told as if it had this greater lead."""
        if formula.kind == "constant" or formula.lead == lead:
            return self.entry(formula)
        return self._remembered(formula, lead - formula.lead)

    def _put(self, what, cell, *rest):
        self._entries.append((what, cell, rest))
        return len(self._entries) - 1

    def row_length(self):
        """The number of the coordinates given out, with the number 1."""
        return self._wide

    def _coordinate(self):
        self._wide += 1
        return self._wide - 1

    def _line(self, formula, depth):
        """The coordinates of the last entries of the formula, so many at least; the last entry comes first."""
        key = (self._cells.cell(formula), self.entry(formula))
        line = self._lines.setdefault(key, [])
        while len(line) < depth:
            line.append(self._coordinate())
        return line

    def _remembered(self, formula, wait):
        """The index of the entry that the formula had so many places ago."""
        coordinate = self._line(formula, wait)[wait - 1]
        if coordinate not in self._of_lines:
            self._of_lines[coordinate] = self._put("remembered", None, coordinate)
        return self._of_lines[coordinate]

    def _new_entry(self, formula):
        kind, numbers, parts = formula.kind, formula.numbers, formula.parts
        cell = self._cells.cell(formula)
        if kind == "letter":
            return self._put(kind, cell, -1 - self._indexes[formula.name])
        if kind == "constant":
            # It stands for itself at each place, also where it is told later than its lead says.
            return self._put(kind, None, numbers[0].top, numbers[0].bottom)
        if kind == "clock":
            return self._put(kind, cell, self._coordinate())
        if kind in ("sum", "difference", "either", "both", "since"):
            return self._over_two(formula, cell)
        if kind == "later" and numbers[0] > parts[0].lead:
            return self._remembered(parts[0], numbers[0] - parts[0].lead)
        if kind in ("later", "sooner", "season", "head", "rest"):
            return self.entry(parts[0])
        inside = self._cells.cell(parts[0])
        if kind == "gaps":
            return self._put(kind, cell, inside)
        if kind == "tally":
            return self._put(kind, cell, self._cells.counted(parts[0], numbers[0]))
        if kind == "age":
            return self._put(kind, cell, inside, self._coordinate())
        return self._over_entry(formula, cell, inside)

    def _over_two(self, formula, cell):
        kind, lead, parts = formula.kind, formula.lead, formula.parts
        left = self.aligned(parts[0], lead)
        if kind == "both" or kind == "either" and parts[0].full:
            return left
        left_cell = self._cells.aligned(parts[0], lead)
        if kind == "since":
            return self._put(kind, cell, left_cell, left, self._cells.aligned(parts[1], lead), self._coordinate())
        right = self.aligned(parts[1], lead)
        if kind == "either":
            return self._put(kind, cell, left_cell, left, right)
        return self._put(kind, cell, left, right)

    def _over_entry(self, formula, cell, inside):
        """The index of the entry of a step that goes by the entries of its part."""
        kind, numbers, part = formula.kind, formula.numbers, formula.parts[0]
        entry = self.entry(part)
        if kind == "scaled":
            return self._put(kind, cell, entry, numbers[0].top, numbers[0].bottom)
        if kind == "moving":
            return self._put(kind, cell, inside, entry, tuple(self._line(part, numbers[0] - 1)[:numbers[0] - 1]))
        if kind == "average":
            line = tuple(self._line(part, numbers[0] - 1)[:numbers[0] - 1])
            return self._put(kind, cell, inside, entry, line, self._cells.counted(part, numbers[0]))
        if kind == "smooth":
            earlier = self._cells.before(part)
            return self._put(kind, cell, inside, entry, numbers[0], earlier, self._coordinate())
        reset = None
        if numbers != () and numbers[0] > 0:
            reset = self._cells.reset(numbers[0], formula.lead)
        return self._put(kind, cell, inside, entry, reset, self._coordinate())

    def step(self, told):
        """What a place makes of the row, if the cells tell this there, with the extras behind them.

        What comes back are the entries, of which those only mean something that are there; and for each coordinate
        what it becomes.
        """
        frame = Frame(told, self._cells.extra_base(), self._wide)
        for what, cell, rest in self._entries:
            action = ACTIONS[what]
            if cell is None or told[cell] or what in LASTING:
                frame.sums.append(action(frame, cell, *rest))
            else:
                frame.sums.append(None)
        for (cell, entry), line in self._lines.items():
            frame.row[line[0]] = frame.sums[entry] if told[cell] else nothing()
            for newer, older in zip(line, line[1:]):
                frame.row[older] = unknown(newer)
        return frame.sums, frame.row


class Frame:
    """What is known of one place: what the cells tell, the entries so far, and what the row becomes."""

    def __init__(self, told, extra_base, wide):
        self.told = told
        self.base = extra_base
        self.sums = []
        self.row = [unknown(coordinate) for coordinate in range(wide)]

    def extra(self, index):
        """What is told in addition."""
        return self.told[self.base + index]


def _letter(frame, cell, index):
    return unknown(index)


def _constant(frame, cell, top, bottom):
    return multiple(unknown(0), top, bottom)


def _clock(frame, cell, coordinate):
    frame.row[coordinate] = plus(unknown(coordinate), unknown(0))
    return unknown(coordinate)


def _remembered(frame, cell, coordinate):
    return unknown(coordinate)


def _sum(frame, cell, left, right):
    return plus(frame.sums[left], frame.sums[right])


def _difference(frame, cell, left, right):
    return minus(frame.sums[left], frame.sums[right])


def _scaled(frame, cell, entry, top, bottom):
    return multiple(frame.sums[entry], top, bottom)


def _either(frame, cell, left_cell, left, right):
    return frame.sums[left if frame.told[left_cell] else right]


def _gaps(frame, cell, inside):
    return nothing() if frame.told[inside] else unknown(0)


def _tally(frame, cell, extra):
    return multiple(unknown(0), frame.extra(extra))


def _age(frame, cell, inside, coordinate):
    if frame.told[inside]:
        frame.row[coordinate] = nothing()
    elif frame.told[cell]:
        frame.row[coordinate] = plus(unknown(coordinate), unknown(0))
    return frame.row[coordinate]


def _moving(frame, cell, inside, entry, line):
    total = frame.sums[entry] if frame.told[inside] else nothing()
    for coordinate in line:
        total = plus(total, unknown(coordinate))
    return total


def _average(frame, cell, inside, entry, line, extra):
    return multiple(_moving(frame, cell, inside, entry, line), 1, frame.extra(extra))


def _total(frame, cell, inside, entry, reset, coordinate):
    total = unknown(coordinate)
    if reset is not None and frame.extra(reset):
        total = nothing()
    if frame.told[inside]:
        total = plus(total, frame.sums[entry])
    frame.row[coordinate] = total
    return total


def _smooth(frame, cell, inside, entry, weight, earlier, coordinate):
    if not frame.told[inside]:
        return None
    result = frame.sums[entry]
    if frame.extra(earlier):
        rest = 1 - weight
        old = multiple(unknown(coordinate), rest.top, rest.bottom)
        result = plus(multiple(result, weight.top, weight.bottom), old)
    frame.row[coordinate] = result
    return result


def _filled(frame, cell, inside, entry, reset, coordinate):
    if frame.told[inside]:
        frame.row[coordinate] = frame.sums[entry]
    return frame.row[coordinate]


def _since(frame, cell, left_cell, left, right_cell, coordinate):
    total = nothing() if frame.told[right_cell] else unknown(coordinate)
    # A sum is begun by the first entry on the right only; up to there the coordinate stays 0.
    if frame.told[cell] and frame.told[left_cell]:
        total = plus(total, frame.sums[left])
    frame.row[coordinate] = total
    return total


# Steps that remember something go on where they have a gap, too.
LASTING = ("clock", "age", "total", "smooth", "filled", "since")

ACTIONS = {
    "letter": _letter,
    "constant": _constant,
    "clock": _clock,
    "remembered": _remembered,
    "sum": _sum,
    "difference": _difference,
    "scaled": _scaled,
    "either": _either,
    "gaps": _gaps,
    "tally": _tally,
    "age": _age,
    "moving": _moving,
    "average": _average,
    "total": _total,
    "smooth": _smooth,
    "filled": _filled,
    "since": _since,
}
