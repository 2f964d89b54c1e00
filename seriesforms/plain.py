"""Plain machines: what formulas without a step `<<` remember, each time they stand there, in flags and numbers.

A row of numbers has the coordinates 0 for the number 1, then those of the numbers. What is told at a place, and the
row behind it, are sums of multiples of the row ahead of it (its coordinates are the unknowns from 0 on) and of the
entries of the letters at this place (the unknowns -1, -2, ..), fixed by the flags and by which entries are there.
"""

from seriesforms.terms import minus, multiple, nothing, plus, unknown


class PlainMachine:
    """The plain machine of some formulas together."""

    def __init__(self, formulas, letters):
        """The letters, in their order, are those whose entries it reads."""
        self._indexes = {letter.name: index for index, letter in enumerate(letters)}
        self._nodes = []
        # How many values each flag can have.
        self.ranges = []
        self.wide = 1
        self._roots = [self._node_of(formula) for formula in formulas]

    def _node_of(self, formula):
        """The index of the node of this formula; those of the formulas inside come ahead of it, from the left."""
        inside = [self._node_of(inner) for inner in formula.parts]
        index = self._indexes[formula.name] if formula.kind == "letter" else None
        self._nodes.append(Node(formula, inside, index, len(self.ranges), self.wide))
        self.ranges.extend(_flag_ranges(formula.kind, formula.numbers))
        self.wide += _own_numbers(formula.kind, formula.numbers)
        return len(self._nodes) - 1

    def start(self):
        """The flags in the beginning."""
        return (0,) * len(self.ranges)

    def step(self, flags, gaps):
        """Reads a place with these flags, at which letters have a gap where `gaps` has 1.

        What comes back are the flags afterwards; what each formula tells, None for a gap; and what the row becomes.
        """
        frame = PlainFrame(flags, gaps, self.wide)
        for node in self._nodes:
            action = TOLD[node.what]
            frame.told.append(action(frame, node))
        return tuple(frame.flags), [frame.told[root] for root in self._roots], frame.row


class Node:
    """A formula, each time it stands in those of a plain machine; with its first flag and its first number."""

    def __init__(self, formula, inside, index, flag, coordinate):
        self.what = formula.kind
        self.counts = formula.numbers
        self.inside = inside
        self.index = index
        self.flag = flag
        self.coordinate = coordinate


class PlainFrame:
    """What is known of one place: the flags ahead of it and behind it, what is told, and what the row becomes."""

    def __init__(self, flags, gaps, wide):
        self.old = flags
        self.flags = list(flags)
        self.absent = gaps
        self.told = []
        self.row = [unknown(coordinate) for coordinate in range(wide)]

    def inner(self, node, which=0):
        """What a formula inside tells."""
        return self.told[node.inside[which]]

    def push(self, node, many, entry):
        """Moves so many flags of the node on; the first one says whether the entry is there."""
        for at in range(1, many):
            self.flags[node.flag + at] = self.old[node.flag + at - 1]
        self.flags[node.flag] = 0 if entry is None else 1

    def push_numbers(self, node, many, entry):
        """Moves so many numbers of the node on likewise."""
        for at in range(1, many):
            self.row[node.coordinate + at] = unknown(node.coordinate + at - 1)
        self.row[node.coordinate] = nothing() if entry is None else entry


def _flag_ranges(kind, counts):
    """How many values the own flags of a formula can have."""
    if kind == "later":
        return [2] * counts[0]
    if kind in ("moving", "average", "tally"):
        return [2] * (counts[0] - 1)
    if kind == "season" or kind == "total" and counts[0] > 0:
        return [counts[0]]
    if kind in ("head", "rest"):
        return [counts[0] + 1]
    if kind in ("smooth", "filled", "since", "age"):
        return [2]
    return []


def _own_numbers(kind, counts):
    if kind == "later":
        return counts[0]
    if kind in ("moving", "average"):
        return counts[0] - 1
    if kind in ("clock", "total", "smooth", "filled", "since", "age"):
        return 1
    return 0


def _plain_letter(frame, node):
    return None if frame.absent[node.index] == 1 else unknown(-1 - node.index)


def _plain_constant(frame, node):
    return multiple(unknown(0), node.counts[0].top, node.counts[0].bottom)


def _plain_clock(frame, node):
    frame.row[node.coordinate] = plus(unknown(node.coordinate), unknown(0))
    return unknown(node.coordinate)


def _plain_sum(frame, node):
    left, right = frame.inner(node), frame.inner(node, 1)
    return None if left is None or right is None else plus(left, right)


def _plain_difference(frame, node):
    left, right = frame.inner(node), frame.inner(node, 1)
    return None if left is None or right is None else minus(left, right)


def _plain_scaled(frame, node):
    entry = frame.inner(node)
    return None if entry is None else multiple(entry, node.counts[0].top, node.counts[0].bottom)


def _plain_either(frame, node):
    left = frame.inner(node)
    return frame.inner(node, 1) if left is None else left


def _plain_both(frame, node):
    return None if frame.inner(node, 1) is None else frame.inner(node)


def _plain_gaps(frame, node):
    return unknown(0) if frame.inner(node) is None else nothing()


def _plain_later(frame, node):
    many = node.counts[0]
    frame.push(node, many, frame.inner(node))
    frame.push_numbers(node, many, frame.inner(node))
    return unknown(node.coordinate + many - 1) if frame.old[node.flag + many - 1] == 1 else None


def _window(frame, node):
    """The coordinates of earlier entries at the last places that are there; the entry told inside is pushed there."""
    many = node.counts[0] - 1
    there = [node.coordinate + at for at in range(many) if frame.old[node.flag + at] == 1]
    frame.push(node, many, frame.inner(node))
    return there


def _plain_tally(frame, node):
    # The numbers of a tally stand for nothing: only how many there are is told.
    many = len(_window(frame, node))
    return multiple(unknown(0), many if frame.inner(node) is None else many + 1)


def _moving_entries(frame, node):
    """The entries that are there at the last places; None if there are not enough of them."""
    entry = frame.inner(node)
    there = [unknown(coordinate) for coordinate in _window(frame, node)]
    frame.push_numbers(node, node.counts[0] - 1, entry)
    if entry is not None:
        there.append(entry)
    return None if len(there) < node.counts[1] else there


def _sum_of(entries):
    total = nothing()
    for entry in entries:
        total = plus(total, entry)
    return total


def _plain_moving(frame, node):
    there = _moving_entries(frame, node)
    return None if there is None else _sum_of(there)


def _plain_average(frame, node):
    there = _moving_entries(frame, node)
    return None if there is None else multiple(_sum_of(there), 1, len(there))


def _plain_total(frame, node):
    total, entry = unknown(node.coordinate), frame.inner(node)
    if node.counts[0] > 0:
        if frame.old[node.flag] == 0:
            total = nothing()
        frame.flags[node.flag] = (frame.old[node.flag] + 1) % node.counts[0]
    if entry is not None:
        total = plus(total, entry)
    frame.row[node.coordinate] = total
    return None if entry is None else total


def _plain_smooth(frame, node):
    entry = frame.inner(node)
    if entry is None:
        return None
    if frame.old[node.flag] == 1:
        weight = node.counts[0]
        rest = 1 - weight
        earlier = multiple(unknown(node.coordinate), rest.top, rest.bottom)
        entry = plus(multiple(entry, weight.top, weight.bottom), earlier)
    frame.flags[node.flag] = 1
    frame.row[node.coordinate] = entry
    return entry


def _plain_filled(frame, node):
    entry = frame.inner(node)
    if entry is not None:
        frame.flags[node.flag] = 1
        frame.row[node.coordinate] = entry
    return frame.row[node.coordinate] if frame.flags[node.flag] == 1 else None


def _plain_since(frame, node):
    entry, mark = frame.inner(node), frame.inner(node, 1)
    total = unknown(node.coordinate)
    if mark is not None:
        frame.flags[node.flag] = 1
        total = nothing()
    begun = frame.flags[node.flag] == 1
    if begun and entry is not None:
        total = plus(total, entry)
    frame.row[node.coordinate] = total
    return total if begun else None


def _plain_season(frame, node):
    modulus, remainder = node.counts
    place = frame.old[node.flag]
    frame.flags[node.flag] = (place + 1) % modulus
    return frame.inner(node) if place == remainder else None


def _plain_head(frame, node):
    place = frame.old[node.flag]
    frame.flags[node.flag] = min(place + 1, node.counts[0])
    return frame.inner(node) if place < node.counts[0] else None


def _plain_rest(frame, node):
    place = frame.old[node.flag]
    frame.flags[node.flag] = min(place + 1, node.counts[0])
    return None if place < node.counts[0] else frame.inner(node)


def _plain_age(frame, node):
    if frame.inner(node) is not None:
        frame.flags[node.flag] = 1
        frame.row[node.coordinate] = nothing()
    elif frame.old[node.flag] == 1:
        frame.row[node.coordinate] = plus(unknown(node.coordinate), unknown(0))
    return frame.row[node.coordinate] if frame.flags[node.flag] == 1 else None


TOLD = {
    "letter": _plain_letter,
    "constant": _plain_constant,
    "clock": _plain_clock,
    "sum": _plain_sum,
    "difference": _plain_difference,
    "scaled": _plain_scaled,
    "either": _plain_either,
    "both": _plain_both,
    "gaps": _plain_gaps,
    "later": _plain_later,
    "tally": _plain_tally,
    "moving": _plain_moving,
    "average": _plain_average,
    "total": _plain_total,
    "smooth": _plain_smooth,
    "filled": _plain_filled,
    "since": _plain_since,
    "season": _plain_season,
    "head": _plain_head,
    "rest": _plain_rest,
    "age": _plain_age,
}
