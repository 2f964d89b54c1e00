"""What each step makes of whole series, which are lists of Ratios and None here."""

from seriesforms.ratios import Ratio


def column(formula, data, length):
    """The entries of the formula; the data have a Series of this length for each of its letters."""
    if formula.kind == "letter":
        return list(data[formula.name].entries)
    if formula.kind == "constant":
        return [formula.numbers[0]] * length
    if formula.kind == "clock":
        return [Ratio(place) for place in range(length)]
    step = STEPS[formula.kind]
    return step([column(part, data, length) for part in formula.parts], formula.numbers)


def _sum(columns, _):
    return [None if a is None or b is None else a + b for a, b in zip(columns[0], columns[1])]


def _difference(columns, _):
    return [None if a is None or b is None else a - b for a, b in zip(columns[0], columns[1])]


def _scaled(columns, numbers):
    return [None if a is None else numbers[0] * a for a in columns[0]]


def _later(columns, numbers):
    gaps = [None] * numbers[0]
    return (gaps + columns[0])[:len(columns[0])]


def _sooner(columns, numbers):
    gaps = [None] * numbers[0]
    return (columns[0] + gaps)[numbers[0]:]


def _either(columns, _):
    return [b if a is None else a for a, b in zip(columns[0], columns[1])]


def _both(columns, _):
    return [None if b is None else a for a, b in zip(columns[0], columns[1])]


def _total(columns, numbers):
    every = numbers[0]
    total = Ratio(0)
    result = []
    for place, entry in enumerate(columns[0]):
        if every > 0 and place % every == 0:
            total = Ratio(0)
        if entry is not None:
            total = total + entry
        result.append(None if entry is None else total)
    return result


def _windows(column_inside, wide):
    """For each place the entries that are there at the last places."""
    result = []
    for place in range(len(column_inside)):
        window = column_inside[max(0, place - wide + 1):place + 1]
        result.append([entry for entry in window if entry is not None])
    return result


def _moving(columns, numbers):
    wide, least = numbers
    return [None if len(there) < least else sum(there, start=Ratio(0)) for there in _windows(columns[0], wide)]


def _average(columns, numbers):
    wide, least = numbers
    result = []
    for there in _windows(columns[0], wide):
        result.append(None if len(there) < least else sum(there, start=Ratio(0)).over(len(there)))
    return result


def _tally(columns, numbers):
    return [Ratio(len(there)) for there in _windows(columns[0], numbers[0])]


def _smooth(columns, numbers):
    weight = numbers[0]
    last = None
    result = []
    for entry in columns[0]:
        if entry is not None:
            last = entry if last is None else weight * entry + (1 - weight) * last
        result.append(None if entry is None else last)
    return result


def _filled(columns, _):
    last = None
    result = []
    for entry in columns[0]:
        if entry is not None:
            last = entry
        result.append(last)
    return result


def _since(columns, _):
    total = None
    result = []
    for entry, mark in zip(columns[0], columns[1]):
        if mark is not None:
            total = Ratio(0)
        if total is not None and entry is not None:
            total = total + entry
        result.append(total)
    return result


def _season(columns, numbers):
    modulus, remainder = numbers
    return [entry if place % modulus == remainder else None for place, entry in enumerate(columns[0])]


def _head(columns, numbers):
    return [entry if place < numbers[0] else None for place, entry in enumerate(columns[0])]


def _rest(columns, numbers):
    return [None if place < numbers[0] else entry for place, entry in enumerate(columns[0])]


def _gaps(columns, _):
    return [Ratio(1) if entry is None else Ratio(0) for entry in columns[0]]


def _age(columns, _):
    last = None
    result = []
    for place, entry in enumerate(columns[0]):
        if entry is not None:
            last = place
        result.append(None if last is None else Ratio(place - last))
    return result


STEPS = {
    "sum": _sum,
    "difference": _difference,
    "scaled": _scaled,
    "later": _later,
    "sooner": _sooner,
    "either": _either,
    "both": _both,
    "total": _total,
    "moving": _moving,
    "average": _average,
    "smooth": _smooth,
    "filled": _filled,
    "since": _since,
    "season": _season,
    "head": _head,
    "rest": _rest,
    "gaps": _gaps,
    "tally": _tally,
    "age": _age,
}
