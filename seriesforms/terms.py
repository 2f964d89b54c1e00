"""Sums of multiples of unknowns.

Such a sum is a pair of a denominator, an integer from 1 on, and a dict that has for each unknown (an integer) by
which integer it is multiplied, ahead of the division; unknowns without a multiple are left out.
"""

from math import gcd, lcm


def nothing():
    """The sum that is 0."""
    return 1, {}


def unknown(index):
    """The sum that is this unknown alone."""
    return 1, {index: 1}


def multiple(terms, top, bottom=1):
    """The sum times the fraction top / bottom, the bottom being from 1 on."""
    if top == 0:
        return nothing()
    return _reduced(terms[0] * bottom, {index: many * top for index, many in terms[1].items()})


def plus(left, right):
    """The sum of both."""
    if left[0] == right[0]:
        return left[0], combined(left[1], 1, right[1], 1)
    bottom = lcm(left[0], right[0])
    return _reduced(bottom, combined(left[1], bottom // left[0], right[1], bottom // right[0]))


def minus(left, right):
    """The left sum less the right one."""
    return plus(left, multiple(right, -1))


def combined(left, left_times, right, right_times):
    """A dict of multiples: those of the left one and of the right one, each so many times."""
    result = {index: many * left_times for index, many in left.items()}
    for index, many in right.items():
        total = result.get(index, 0) + many * right_times
        if total == 0:
            del result[index]
        else:
            result[index] = total
    return result


def difference(left, right):
    """Multiples that are all 0 just where both sums are equal."""
    return combined(left[1], right[0], right[1], -left[0])


def dot(multiples, row):
    """The sum for this row, a dict from the unknowns to what they are; ahead of the division."""
    total = 0
    for index, many in multiples.items():
        if index in row:
            total += many * row[index]
    return total


def put_in(terms, told):
    """The sum in which each unknown from 0 on is replaced by the sum that `told` has for it."""
    bottom, result = 1, {}
    for index, many in terms[1].items():
        inner_bottom, inner = told[index] if index >= 0 else unknown(index)
        new_bottom = lcm(bottom, inner_bottom)
        result = combined(result, new_bottom // bottom, inner, many * (new_bottom // inner_bottom))
        bottom = new_bottom
    return _reduced(bottom * terms[0], result)


def _reduced(bottom, multiples):
    """The same sum with the least denominator."""
    common = bottom
    for many in multiples.values():
        if common == 1:
            return bottom, multiples
        common = gcd(common, many)
    if common == 1:
        return bottom, multiples
    return bottom // common, {index: many // common for index, many in multiples.items()}
