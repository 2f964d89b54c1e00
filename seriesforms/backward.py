"""How far a formula looks back."""

from seriesforms.changes import Changes
from seriesforms.searching import Front


def look_back(machine):
    """The number of places by which the only root of the machine looks back, or None if it does so without end.

    What is gone through is what changes make after so many places or more; it becomes less from place to place, and
    as soon as it stays as it is, it stays so for ever.
    """
    changes = Changes(machine)
    family = _made_at_all(changes)
    # For each way in which something can be told: after how many places no change alters it any more.
    ends = [None] * (changes.horizon + 1)
    passed = 0
    while True:
        for way in range(changes.horizon + 1):
            if ends[way] is None and not _any_fails(changes, family, way):
                ends[way] = passed
        if None not in ends:
            return max([0] + [ends[way] - _distance(changes, way) for way in range(changes.horizon + 1)])
        following = _moved(changes, family)
        if _dimension(following) == _dimension(family):
            return None
        family = following
        passed += 1


def find_change(machine, count):
    """A change that alters what is told of a place from which it lies more than `count` places back.

    There must be one. What comes back are the patterns of both data, by their indexes; the pair of the place and the
    letter of the change; and the place that is told of.
    """
    changes = Changes(machine)
    reached = changes.reached()
    stages = [_begun(changes, reached)]
    while True:
        found = _failing(changes, stages[-1], len(stages) - 1 - count)
        if found is not None:
            break
        stages.append(_next_stage(changes, stages[-1]))
    node, way, last = found
    node, behind = _patterns_behind(stages, node)
    ahead = _patterns_ahead(reached, stages[0][node][0])
    pattern, letter, changed = stages[0][node][1]
    one, other = ahead + [pattern] + behind + last, ahead + [changed] + behind + last
    place = len(ahead) + 1 + len(behind) - _distance(changes, way)
    return one, other, (len(ahead), letter), place


def _patterns_behind(stages, node):
    """The node of the first stage that led to this one of the last stage, and the patterns in between."""
    patterns = []
    for stage in stages[:0:-1]:
        patterns.append(stage[node][1])
        node = stage[node][0]
    return node, patterns[::-1]


def _patterns_ahead(reached, at):
    """The patterns that led to what was reached with this index."""
    patterns = []
    while reached[at][0] is not None:
        patterns.append(reached[at][1])
        at = reached[at][0]
    return patterns[::-1]


def _distance(changes, way):
    """How far behind the last place read the place lies that is told in this way.

    The way is by how many places reading goes on beyond the end; or it is the lead, if one more place is read.
    """
    return changes.horizon - (way if way < changes.horizon else 0)


def _made_at_all(changes):
    """What changes make after any number of places: pairs of states with rows."""
    front = Front()
    for _, _, state, rows in changes.reached():
        for choice in changes.choices(state):
            changes.begin(state, rows, choice, front)
    gathered = {}
    waiting = front.fresh()
    while waiting:
        front.forget()
        for pair, rows in waiting:
            gathered[pair] = gathered.get(pair, []) + rows
            for pattern in changes.ways(pair):
                changes.step(pair, rows, pattern, front)
        waiting = front.fresh()
    return list(gathered.items())


def _moved(changes, family):
    """What the next place makes of all this."""
    front = Front()
    for pair, rows in family:
        for pattern in changes.ways(pair):
            changes.step(pair, rows, pattern, front)
    return front.fresh()


def _dimension(family):
    return sum([len(rows) for _, rows in family])


def _any_fails(changes, family, way):
    """Whether a change alters what is told in this way."""
    for pair, rows in family:
        if way < changes.horizon:
            if changes.fails_ending(pair, rows, way):
                return True
        elif changes.fails_reading(pair, rows) is not None:
            return True
    return False


def _begun(changes, reached):
    """What changes make at their place: tuples (index of what was reached, change, pair of states, new rows)."""
    front = Front()
    stage = []
    for at, (_, _, state, rows) in enumerate(reached):
        for choice in changes.choices(state):
            front.forget()
            changes.begin(state, rows, choice, front)
            for pair, fresh in front.fresh():
                stage.append((at, choice, pair, fresh))
    return stage


def _next_stage(changes, stage):
    """What the next place makes of a stage: tuples (index in the stage, pattern, pair of states, new rows)."""
    front = Front()
    following = []
    for at, node in enumerate(stage):
        for pattern in changes.ways(node[2]):
            front.forget()
            changes.step(node[2], node[3], pattern, front)
            for pair, rows in front.fresh():
                following.append((at, pattern, pair, rows))
    return following


def _failing(changes, stage, spare):
    """The first node of a stage at which the change alters what is told of a place that lies far enough from it.

    Told may be of places that lie up to `spare` places back. What comes back is the index of the node, the way, and
    the row of the patterns that must be read in addition; or None.
    """
    for at, node in enumerate(stage):
        pair, rows = node[2:]
        for way in range(changes.horizon):
            if _distance(changes, way) <= spare and changes.fails_ending(pair, rows, way):
                return at, way, []
        if changes.horizon <= spare:
            pattern = changes.fails_reading(pair, rows)
            if pattern is not None:
                return at, changes.horizon, [pattern]
    return None
