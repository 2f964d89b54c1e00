"""Formulas from what their last step is made of."""

from seriesforms.formulas import Formula


def make(kind, parts, numbers):
    """The formula of this kind with these parts and numbers; it is no letter."""
    if kind == "constant":
        return Formula.constant(numbers[0])
    if kind == "clock":
        return Formula.clock()
    if len(parts) == 2:
        return _over_two(kind, parts[0], parts[1])
    return _over_one(kind, parts[0], numbers)


def _over_two(kind, left, right):
    if kind == "sum":
        return left + right
    if kind == "difference":
        return left - right
    if kind == "either":
        return left | right
    if kind == "both":
        return left & right
    return left.since(right)


def _over_one(kind, part, numbers):
    if kind == "scaled":
        return numbers[0] * part
    if kind == "later":
        return part >> numbers[0]
    if kind == "sooner":
        return part << numbers[0]
    if kind == "total":
        return part.total(numbers[0])
    if kind == "moving":
        return part.moving(numbers[0], numbers[1])
    if kind == "average":
        return part.average(numbers[0], numbers[1])
    if kind == "smooth":
        return part.smooth(numbers[0])
    if kind == "season":
        return part.season(numbers[0], numbers[1])
    if kind == "head":
        return part.head(numbers[0])
    if kind == "rest":
        return part.rest(numbers[0])
    if kind == "tally":
        return part.tally(numbers[0])
    if kind == "filled":
        return part.filled()
    if kind == "gaps":
        return part.gaps()
    return part.age()
