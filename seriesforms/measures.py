"""What the text of a formula tells of its size and of the memory that it needs."""

ALWAYS_FULL = ("constant", "clock", "gaps", "tally")
FULL_IF_ALL_ARE = ("sum", "difference", "scaled", "both", "total", "smooth", "filled", "age")
OVER_TWO = ("sum", "difference", "either", "both", "since")


def size_of(parts):
    """The number of letters, constants, clocks and steps."""
    return 1 + sum([part.size for part in parts])


def levels_of(parts):
    """One more than the greatest levels of the parts."""
    return 1 + max([part.levels for part in parts], default=0)


def lead_of(kind, parts, numbers):
    """By how many places the formula may look ahead, as far as its text tells."""
    lead = max([part.lead for part in parts], default=0)
    if kind == "later":
        return max(0, lead - numbers[0])
    if kind == "sooner":
        return lead + numbers[0]
    return lead


def full_of(kind, parts, numbers):
    """Whether the text of a formula that is no letter tells that it never has a gap."""
    fulls = [part.full for part in parts]
    if kind in ALWAYS_FULL:
        return True
    if kind in FULL_IF_ALL_ARE:
        return all(fulls)
    if kind == "either":
        return any(fulls)
    if kind == "since":
        return fulls[1]
    if kind == "moving" or kind == "average":
        return fulls[0] and numbers[1] == 1
    return False


def load_of(kind, parts, numbers):
    """The product of the factors of all steps."""
    load = _own_factor(kind, parts, numbers)
    for part in parts:
        load = load * part.load
    return load


def width_of(kind, parts, numbers):
    """How many numbers all of the steps and clocks remember."""
    return _own_width(kind, parts, numbers) + sum([part.width for part in parts])


def _own_factor(kind, parts, numbers):
    if kind == "later":
        wait = _wait_of_later(parts, numbers)
        return wait + 1 if parts[0].full else 1 << wait
    if kind in OVER_TWO:
        return _factor_over_two(kind, parts)
    if kind in ("moving", "average", "tally"):
        return numbers[0] if parts[0].full else 1 << (numbers[0] - 1)
    if kind in ("smooth", "filled", "age"):
        return 1 if parts[0].full else 2
    if kind == "total":
        return max(1, numbers[0])
    if kind == "season":
        return numbers[0]
    if kind in ("head", "rest"):
        return numbers[0] + 1
    return 1


def _own_width(kind, parts, numbers):
    if kind == "later":
        return _wait_of_later(parts, numbers)
    if kind == "since":
        return 1 + _wait_over_two(parts)
    if kind in OVER_TWO:
        return _wait_over_two(parts)
    if kind in ("moving", "average"):
        return numbers[0] - 1
    if kind in ("clock", "total", "smooth", "filled", "age"):
        return 1
    return 0


def _wait_of_later(parts, numbers):
    """How many entries of its part a shift must remember."""
    return max(0, numbers[0] - parts[0].lead)


def _wait_over_two(parts):
    """How many entries of the part with the smaller lead must be remembered."""
    return abs(parts[0].lead - parts[1].lead)


def _factor_over_two(kind, parts):
    factor = 1
    if kind == "since" and not parts[1].full:
        factor = 2
    earlier = parts[0] if parts[0].lead < parts[1].lead else parts[1]
    if earlier.full:
        return factor
    return factor << _wait_over_two(parts)
