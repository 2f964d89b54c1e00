"""How far a formula looks back."""

from seriesforms.searching import Front


def look_back(changes):
    """The number of places by which the only root of the machine looks back, or None if it does so without end.

    What is gone through is what changes make after so many places or more; it becomes less from place to place, and
    as soon as it stays as it is, it stays so for ever.
    """
    family = Family(changes)
    # For each way in which something can be told: after how many places no change alters it any more.
    ends = [None] * (changes.horizon + 1)
    passed = 0
    while True:
        for way in range(changes.horizon + 1):
            if ends[way] is None and not family.fails(way):
                ends[way] = passed
        if None not in ends:
            return max([0] + [ends[way] - _distance(changes, way) for way in range(changes.horizon + 1)])
        if not family.move():
            return None
        passed += 1


class Family:
    """What changes make after so many places or more: rows for pairs of states."""

    def __init__(self, changes):
        self._changes = changes
        self._rows = {}
        self._sources = {}
        self._gather()
        self._pairs = list(self._rows)
        # Only pairs behind such that have lost something can lose something.
        self._waiting = self._pairs
        # For each way how many of the pairs, from the first one on, are known not to fail; they never will again.
        self._sound = [0] * (changes.horizon + 1)

    def _gather(self):
        """Gathers what changes make after any number of places."""
        front = Front()
        for _, _, state, rows in self._changes.reached():
            for choice in self._changes.choices(state):
                self._changes.begin(state, rows, choice, front)
        waiting = front.fresh()
        while waiting:
            front.forget()
            for pair, rows in waiting:
                if pair not in self._rows:
                    self._rows[pair] = []
                    for pattern, following in self._changes.ways(pair):
                        self._sources.setdefault(following, []).append((pair, pattern))
                self._rows[pair] = self._rows[pair] + rows
                for pattern, _ in self._changes.ways(pair):
                    self._changes.step(pair, rows, pattern, front)
            waiting = front.fresh()

    def move(self):
        """Goes on by one place; tells whether anything has become less."""
        less = {}
        for pair in self._waiting:
            rows = self._moved_to(pair)
            if len(rows) < len(self._rows[pair]):
                less[pair] = rows
        behind = {}
        for pair, rows in less.items():
            self._rows[pair] = rows
            for _, following in self._changes.ways(pair):
                if following in self._rows:
                    behind[following] = True
        self._waiting = list(behind)
        return len(less) > 0

    def _moved_to(self, pair):
        """The rows of this pair that come from others by one place."""
        front = Front()
        for source, pattern in self._sources.get(pair, []):
            if self._rows[source]:
                self._changes.step(source, self._rows[source], pattern, front)
        fresh = front.fresh()
        return fresh[0][1] if fresh else []

    def fails(self, way):
        """Whether a change alters what is told in this way."""
        while self._sound[way] < len(self._pairs):
            pair = self._pairs[self._sound[way]]
            rows = self._rows[pair]
            if rows and way < self._changes.horizon and self._changes.fails_ending(pair, rows, way):
                return True
            if rows and way == self._changes.horizon and self._changes.fails_reading(pair, rows) is not None:
                return True
            self._sound[way] += 1
        return False


def find_change(changes, count):
    """A change that alters what is told of a place from which it lies more than `count` places back.

    There must be one. What comes back are the patterns of both data, by their indexes; the pair of the place and the
    letter of the change; and the place that is told of.
    """
    stages = Stages(changes, count)
    # Ahead of this stage no place that is told of lies far enough from the change.
    found = stages.first_failing_in(count + min(1, changes.horizon))
    while found is None:
        found = stages.first_failing_in_next()
    index, way, last = found
    index, behind = stages.patterns_behind(index)
    at, choice = stages.beginning(index)
    ahead = _patterns_ahead(changes.reached(), at)
    pattern, letter, changed = choice
    one, other = ahead + [pattern] + behind + last, ahead + [changed] + behind + last
    place = len(ahead) + 1 + len(behind) - _distance(changes, way)
    return one, other, (len(ahead), letter), place


class Stages:
    """What changes make after each number of places.

    Each stage is a row of nodes: tuples of the index of the node in the stage ahead of it, a pattern, a pair of states
    and its new rows. In the first one, of the place of the change, they begin with the index of what was reached and
    with the change. Nodes stand in the order of these; what brings no new rows is left out.
    """

    def __init__(self, changes, count):
        self._changes = changes
        self._many_back = count
        self._nodes = [[]]
        self._fronts = [Front()]

    def first_failing_in(self, stage):
        """The first node of this stage at which the change alters what is told of a place that lies far enough.

        The stages are filled only as far as needed for that. What comes back are the index of the node, the way in
        which it is told, and the row of the patterns that must be read in addition; or None.
        """
        for _ in range(stage):
            self._add_stage()
        for at, (_, _, state, rows) in enumerate(self._changes.reached()):
            for choice in self._changes.choices(state):
                self._fronts[0].forget()
                self._changes.begin(state, rows, choice, self._fronts[0])
                found = self._failing_behind(self._added(0, at, choice))
                if found is not None:
                    return found
        return None

    def first_failing_in_next(self):
        """The same for the stage behind the last one, if all stages are filled."""
        self._add_stage()
        last = len(self._nodes) - 2
        for index in range(len(self._nodes[last])):
            self._expand(last, index)
        for index in range(len(self._nodes[last + 1])):
            found = self._failing(index)
            if found is not None:
                return found
        return None

    def patterns_behind(self, index):
        """The node of the first stage that led to this one of the last stage, and the patterns in between."""
        patterns = []
        for nodes in self._nodes[:0:-1]:
            patterns.append(nodes[index][1])
            index = nodes[index][0]
        return index, patterns[::-1]

    def beginning(self, index):
        """The index of what was reached ahead of the change, and the change, at this node of the first stage."""
        return self._nodes[0][index][:2]

    def _add_stage(self):
        self._nodes.append([])
        self._fronts.append(Front())

    def _added(self, stage, index, step):
        """The indexes of the nodes that are new in this stage, from the one with this index ahead of it."""
        first = len(self._nodes[stage])
        for pair, rows in self._fronts[stage].fresh():
            self._nodes[stage].append((index, step, pair, rows))
        return list(range(first, len(self._nodes[stage])))

    def _expand(self, stage, index):
        """The indexes of the nodes of the next stage that come from this one."""
        pair, rows = self._nodes[stage][index][2:]
        added = []
        for pattern, _ in self._changes.ways(pair):
            self._fronts[stage + 1].forget()
            self._changes.step(pair, rows, pattern, self._fronts[stage + 1])
            added.extend(self._added(stage + 1, index, pattern))
        return added

    def _failing_behind(self, indexes):
        """What `first_failing_in` tells, for the nodes of the last stage that come from these ones of the first."""
        waiting = [(0, index) for index in indexes[::-1]]
        while waiting:
            stage, index = waiting.pop()
            if stage < len(self._nodes) - 1:
                waiting.extend([(stage + 1, inner) for inner in self._expand(stage, index)[::-1]])
            else:
                found = self._failing(index)
                if found is not None:
                    return found
        return None

    def _failing(self, index):
        """What `first_failing_in` tells, if this is a node of the last stage at which something fails."""
        pair, rows = self._nodes[-1][index][2:]
        spare = len(self._nodes) - 1 - self._many_back
        for way in range(self._changes.horizon):
            if _distance(self._changes, way) <= spare and self._changes.fails_ending(pair, rows, way):
                return index, way, []
        if self._changes.horizon <= spare:
            pattern = self._changes.fails_reading(pair, rows)
            if pattern is not None:
                return index, self._changes.horizon, [pattern]
        return None


def _patterns_ahead(reached, at):
    """The patterns that led to what was reached with this index."""
    patterns = []
    while reached[at][0] is not None:
        patterns.append(reached[at][1])
        at = reached[at][0]
    return patterns[::-1]


def _distance(changes, way):
    """How far behind the last place read the place lies that is told in this way.

    The way is by how many places reading goes on beyond the end; or it is the lead, if one more place is read.
    """
    return changes.horizon - (way if way < changes.horizon else 0)
