"""At which places there are entries."""

from seriesforms.formulas import Formula, check_formula
from seriesforms.machines import Machine
from seriesforms.paths import Path
from seriesforms.searching import first_failing
from seriesforms.together import check_heaviness, check_pair
from seriesforms.watching import Comparison


def starts(formula):
    """The pair (w, v) with which the formula starts, or None."""
    _check_alone(formula)
    machine = Machine((formula,), False)
    states, repeated = _states_without_gaps(machine)
    first = 0
    # A place lies at a distance ahead of the end; all places at a distance beyond the lead are told by reading on.
    for distance in range(formula.lead + 1, 0, -1):
        gaps = _gaps_at(machine, states, formula.lead, distance)
        if gaps and gaps[-1][0] >= repeated:
            return None if distance > formula.lead else (first, distance)
        if gaps:
            first = max(first, gaps[-1][1] + 1)
    return first, 0


def never_gaps(formula):
    """Whether the formula has an entry at each place for all data."""
    return gap(formula) is None


def gap(formula):
    """A length, data and a place at which the formula has a gap for them; or None if it never has one."""
    _check_alone(formula)
    if formula.full:
        return None
    machine = Machine((formula, Formula.constant(0)), False)
    patterns = first_failing(Comparison(machine, False))
    if patterns is None:
        return None
    path, length = Path(machine, patterns), len(patterns)
    # Places further ahead are told without the last place, so that shorter data would do.
    place = max(0, length - 1 - formula.lead)
    while path.tells(0, place, length) is not None:
        place += 1
    return length, path.made_data(None), place


def alike_places(formula, other):
    """Whether both formulas have their gaps at the same places for all data."""
    check_pair(formula, other)
    return first_failing(Comparison(Machine((formula, other), False), False)) is None


def _check_alone(formula):
    check_formula(formula)
    check_heaviness((formula,))


def _states_without_gaps(machine):
    """The states of the machine, place by place, if there are no gaps.

    They end ahead of the first one that comes again; the index of the state that is then repeated is told, too.
    """
    indexes, states = {}, []
    state = machine.start()
    while state not in indexes:
        indexes[state] = len(states)
        states.append(state)
        state = machine.move(state, 0)[0]
    return states, indexes[state]


def _gaps_at(machine, states, lead, distance):
    """The gaps at places at this distance ahead of the end: pairs of the index of the state and the place."""
    found = []
    for index, state in enumerate(states):
        if distance > lead:
            told, place = machine.move(state, 0)[1].told[0], index - lead
        else:
            told, place = machine.ending(state)[lead - distance][0], index - distance
        if told is None and place >= 0:
            found.append((index, place))
    return found
