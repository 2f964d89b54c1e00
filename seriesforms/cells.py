"""Where formulas have entries, told place by place.

A *cell* says for each place whether a formula has an entry there. A formula with the lead L is told at the place that
lies L behind: as soon as the place p is read, its cell tells of the place p - L. If the series has ended, reading goes
on with places beyond its end, so that the rest is told, too; `ended` is then the number of places read beyond the end
before this one, otherwise -1. Nothing is there where a cell would tell of a place ahead of the first one, or of one
behind the last one.

What is remembered is a *state*: a tuple of the place, told only as far as it matters; of a row of bits for each cell
of which some of the last places are remembered (the last one is the lowest bit); and of a bit for each cell of which
is remembered whether anything has been there.
"""

from math import lcm

AND = 0
OR = 1
LETTER = 2
FROM = 3
AFTER = 4
BEFORE = 5
LINE = 6
EVER = 7
COUNT = 8
SEASON = 9

# Kinds of formulas that are there where all of their parts are there.
ALL_THERE = ("sum", "difference", "scaled", "both", "total", "smooth")

# The numbers of ones in the integers below 64.
ONES = (
    0, 1, 1, 2, 1, 2, 2, 3, 1, 2, 2, 3, 2, 3, 3, 4, 1, 2, 2, 3, 2, 3, 3, 4, 2, 3, 3, 4, 3, 4, 4, 5,
    1, 2, 2, 3, 2, 3, 3, 4, 2, 3, 3, 4, 3, 4, 4, 5, 2, 3, 3, 4, 3, 4, 4, 5, 3, 4, 4, 5, 4, 5, 5, 6,
)


class Cells:
    """The cells of some formulas; all are asked for before the first place is read."""

    def __init__(self, names):
        self._indexes = {name: index for index, name in enumerate(names)}
        self._cells = []
        self._known = {}
        self._of_texts = {}
        self._line_cells = []
        self._line_masks = []
        self._ever_cells = []
        self._ever_slots = []
        self._extras = []
        self._cap = 0
        self._period = 1

    def cell(self, formula):
        """The index of the cell of the formula."""
        text = str(formula)
        if text not in self._of_texts:
            self._of_texts[text] = self._new_cell(formula)
        return self._of_texts[text]

    def aligned(self, formula, lead):
        """The cell of the formula, told as if it had this greater lead."""
        cell = self.cell(formula)
        wait = lead - formula.lead
        if wait == 0:
            return cell
        if formula.full:
            return self._from(lead, lead)
        return self._later(cell, lead, wait)

    def counted(self, formula, wide):
        """The index in `extras` of the number of entries at the last places."""
        cell = self.cell(formula)
        return self._extra(COUNT, cell, self._line(cell, wide - 1), (1 << (wide - 1)) - 1)

    def before(self, formula):
        """The index in `extras` of whether the formula has had an entry at an earlier place."""
        return self._extra(EVER, self._ever(self.cell(formula)), 0, 0)

    def reset(self, every, lead):
        """The index in `extras` of whether the place that is told is a multiple of `every`."""
        self._period = lcm(self._period, every)
        return self._extra(SEASON, every, lead, 0)

    def _extra(self, what, a, b, c):
        extra = (what, a, b, c)
        if extra not in self._extras:
            self._extras.append(extra)
        return self._extras.index(extra)

    def _put(self, what, lead, a=0, b=0, c=0, d=0):
        cell = (what, lead, a, b, c, d)
        if cell not in self._known:
            self._known[cell] = len(self._cells)
            self._cells.append(cell)
        return self._known[cell]

    def _from(self, lead, place):
        """What is there from the time on at which this place is read."""
        self._cap = max(self._cap, place)
        return self._put(FROM, lead, place)

    def _line(self, cell, depth):
        """The index in the state of the bits of this cell, in which so many are kept at least."""
        if cell not in self._line_cells:
            self._line_cells.append(cell)
            self._line_masks.append(0)
        index = self._line_cells.index(cell)
        self._line_masks[index] = self._line_masks[index] | (1 << depth) - 1
        return index

    def _ever(self, cell):
        """The index among the bits of what has ever been there."""
        if cell not in self._ever_cells:
            self._ever_cells.append(cell)
        return self._ever_cells.index(cell)

    def _new_cell(self, formula):
        kind, lead, numbers = formula.kind, formula.lead, formula.numbers
        if formula.full:
            return self._from(lead, lead)
        if kind == "letter":
            return self._put(LETTER, 0, self._indexes[formula.name])
        if kind in ("later", "sooner", "head", "rest"):
            return self._by_place(formula)
        if kind in ALL_THERE:
            return self._all_there(self._atoms(formula), lead)
        parts = [self.aligned(part, lead) for part in formula.parts]
        part = parts[0]
        if kind == "either":
            return part if part == parts[1] else self._put(OR, lead, part, parts[1])
        if kind in ("filled", "age"):
            return self._put(EVER, lead, part, self._ever(part))
        if kind == "since":
            return self._put(EVER, lead, parts[1], self._ever(parts[1]))
        if kind == "season":
            self._period = lcm(self._period, numbers[0])
            return self._put(SEASON, lead, part, numbers[0], numbers[1])
        wide = numbers[0] - 1
        return self._put(COUNT, lead, part, self._line(part, wide), (1 << wide) - 1, numbers[1])

    def _atoms(self, formula):
        """Pairs of a lead and a cell: the formula, which is not full, is there where all of these are."""
        if formula.kind not in ALL_THERE:
            return [(formula.lead, self.cell(formula))]
        found = []
        for part in formula.parts:
            if not part.full:
                found.extend(self._atoms(part))
        return found

    def _all_there(self, atoms, lead):
        """The cell of whether all of these are there, told with this lead."""
        # Those with a lesser lead are joined first, so that of all of them together one bit a place is remembered.
        different = sorted(list({atom: True for atom in atoms}))
        reached, current = different[0]
        for atom_lead, cell in different[1:]:
            if atom_lead > reached:
                current = self._later(current, atom_lead, atom_lead - reached)
            reached, current = atom_lead, self._put(AND, atom_lead, current, cell)
        return current if reached == lead else self._later(current, lead, lead - reached)

    def _later(self, cell, lead, wait):
        """What the cell has told so many places ago."""
        return self._put(LINE, lead, self._line(cell, wait), wait - 1)

    def _by_place(self, formula):
        """The cell of a step that looks at another place, or does not have all places."""
        kind, lead, count = formula.kind, formula.lead, formula.numbers[0]
        part = self.cell(formula.parts[0])
        if kind == "later":
            wait = count - formula.parts[0].lead
            # Even where nothing is remembered the cell is one of its own: it has less to tell at the end.
            if wait <= 0:
                return self._put(AFTER, lead, part, 0)
            return self._later(part, lead, wait)
        bound = lead if kind == "sooner" else lead + count
        self._cap = max(self._cap, bound)
        return self._put(BEFORE if kind == "head" else AFTER, lead, part, bound)

    def start(self):
        """The state ahead of the first place."""
        return (0,) + (0,) * (len(self._line_cells) + len(self._ever_cells))

    def step(self, state, present, ended):
        """Reads a place, at which the letters are there whose bits are set in `present`.

        What comes back is the state behind it, and a tuple of what the cells tell, then of the extras.
        """
        place = state[0]
        first_ever = 1 + len(self._line_cells)
        told = []
        for what, lead, a, b, c, d in self._cells:
            if lead <= ended:
                there = 0
            elif what == AND:
                there = told[a] & told[b]
            elif what == LETTER:
                there = present >> a & 1
            elif what == LINE:
                there = state[1 + a] >> b & 1
            elif what == FROM:
                there = 1 if place >= a else 0
            elif what == AFTER:
                there = told[a] if place >= b else 0
            elif what == OR:
                there = told[a] | told[b]
            elif what == COUNT:
                there = 1 if told[a] + ONES[state[1 + b] & c] >= d else 0
            elif what == EVER:
                there = told[a] | state[first_ever + b]
            elif what == SEASON:
                there = told[a] if (place - lead) % b == c else 0
            else:
                there = told[a] if place < b else 0
            told.append(there)
        return self._moved(state, told), tuple(told + self._told_extras(state, told))

    def _moved(self, state, told):
        place = state[0] + 1
        if place == self._cap + self._period:
            place = self._cap
        moved = [place]
        for cell, mask in zip(self._line_cells, self._line_masks):
            moved.append((state[len(moved)] << 1 | told[cell]) & mask)
        for cell in self._ever_cells:
            moved.append(state[len(moved)] | told[cell])
        return tuple(moved)

    def _told_extras(self, state, told):
        first_ever = 1 + len(self._line_cells)
        found = []
        for what, a, b, c in self._extras:
            if what == COUNT:
                found.append(told[a] + ONES[state[1 + b] & c])
            elif what == EVER:
                found.append(state[first_ever + a])
            else:
                found.append(1 if (state[0] - b) % a == 0 else 0)
        return found

    def extra_base(self):
        """The index of the first extra behind what the cells tell."""
        return len(self._cells)
