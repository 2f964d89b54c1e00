"""The search for the least data with which something fails.

A *question* goes through the places of a series. It knows states, which are told by gaps and places alone, and rows,
on which what it tells depends linearly; and it tells whether it fails. It may go on in several states at once. It has

- `patterns`: the number of patterns of one place;
- `start()`: the state ahead of the first place, in which there is the row {0: 1}, or another one that is given;
- `step(state, rows, pattern, first, front)`: reads one place with these rows, whose images it gives to `front`; if it
  is the `first` time for this state, also for all entries. It tells whether it fails with one of them.
- `close(state, rows, front)`: tells whether it fails if the series ends; it may give further rows to `front`.

As all of this is linear, only rows matter that are no sums of multiples of rows with which the same state has been
reached before, by fewer places or by a lesser pattern: if one of those fails later, the others do not come first.
"""

from seriesforms.spans import Span


class Front:
    """Gathers the rows that are new in their states."""

    def __init__(self):
        self._spans = {}
        self._fresh = {}

    def take(self, state, row):
        """Keeps what the row brings that is new in this state."""
        span = self._spans.get(state)
        if span is None:
            span = Span()
            self._spans[state] = span
        kept = span.keep(row)
        if kept is not None:
            self._fresh.setdefault(state, []).append(kept)

    def fresh(self):
        """The states with new rows, and these rows, since `forget` was called."""
        return list(self._fresh.items())

    def gathered(self):
        """All states that have been given, and for each one rows that span all of those given with it."""
        return [(state, span.basis()) for state, span in self._spans.items()]

    def forget(self):
        """Begins anew to gather."""
        self._fresh = {}


def first_failing(question, row=None):
    """The row of the indexes of patterns with which the question fails: the shortest, then the least one; or None.

    Only rows of one place at least are looked at. `row` is the one in the first state, unless it is {0: 1}.
    """
    front = Front()
    front.take(question.start(), {0: 1} if row is None else row)
    found = [(None, None, front.fresh())]
    seen = {}
    at = 0
    while at < len(found):
        groups = found[at][2]
        for pattern in range(question.patterns):
            if _fails(question, groups, pattern, seen, front):
                return _patterns_to(found, at) + [pattern]
            fresh = front.fresh()
            if fresh:
                found.append((at, pattern, fresh))
        for state, _ in groups:
            seen[state] = True
        found[at] = (found[at][0], found[at][1], None)
        at += 1
    return None


def _fails(question, groups, pattern, seen, front):
    """Whether the question fails when all of these groups of rows go on with this pattern."""
    front.forget()
    for state, rows in groups:
        if question.step(state, rows, pattern, state not in seen, front):
            return True
    fresh = front.fresh()
    for state, rows in fresh:
        if question.close(state, rows, front):
            return True
    return False


def _patterns_to(found, at):
    """The patterns that led to the groups with this index."""
    patterns = []
    while found[at][0] is not None:
        patterns.append(found[at][1])
        at = found[at][0]
    return patterns[::-1]
