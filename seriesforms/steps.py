"""Formulas made of other ones: with letters replaced, or with a step left out."""

from seriesforms.errors import InvalidData, InvalidPath, TooLarge
from seriesforms.formulas import check_formula
from seriesforms.machines import Machine
from seriesforms.making import make
from seriesforms.ratios import is_whole
from seriesforms.searching import first_failing
from seriesforms.together import check_heaviness
from seriesforms.watching import Comparison


def put(formula, formulas):
    """The formula in which letters are replaced by the formulas that the dict has under their names."""
    check_formula(formula)
    if not isinstance(formulas, dict):
        raise InvalidData(formulas)
    for letter in formula.letters:
        if letter.name in formulas:
            check_formula(formulas[letter.name])
    return _replaced(formula, formulas)


def part(formula, path):
    """The formula inside at this path."""
    check_formula(formula)
    return _way_to(formula, path)[-1]


def without(formula, path):
    """The formula in which the part at this path is replaced by its own first part."""
    check_formula(formula)
    way = _way_to(formula, path)
    if way[-1].parts == ():
        raise InvalidPath(path)
    return _left_out(way, path)


def idle(formula):
    """The paths of the steps that can be left out, each by itself."""
    check_formula(formula)
    check_heaviness((formula, formula))
    return tuple([path for path in _paths_of_steps(formula, ()) if _is_idle(formula, path)])


def _replaced(formula, formulas):
    """The formula with these letters replaced."""
    if formula.kind == "letter":
        return formulas.get(formula.name, formula)
    if formula.parts == ():
        return formula
    return make(formula.kind, [_replaced(inner, formulas) for inner in formula.parts], formula.numbers)


def _way_to(formula, path):
    """The formulas that stand within one another from the whole one to the part at the path."""
    if not isinstance(path, tuple):
        raise InvalidPath(path)
    way = [formula]
    for index in path:
        if not is_whole(index) or index < 0 or index >= len(way[-1].parts):
            raise InvalidPath(path)
        way.append(way[-1].parts[index])
    return way


def _left_out(way, path):
    """The first formula of the way in which the last one is replaced by its first part."""
    made = way[-1].parts[0]
    for around, index in list(zip(way, path))[::-1]:
        parts = list(around.parts)
        parts[index] = made
        made = make(around.kind, parts, around.numbers)
    return made


def _paths_of_steps(formula, path):
    """The paths of all parts that have parts, ascending; `path` is that of the formula itself."""
    if formula.parts == ():
        return []
    paths = [path]
    for index, inner in enumerate(formula.parts):
        paths.extend(_paths_of_steps(inner, path + (index,)))
    return paths


def _is_idle(formula, path):
    """Whether the step at this path can be left out."""
    try:
        shorter = without(formula, path)
    except TooLarge:
        return False
    return first_failing(Comparison(Machine((formula, shorter)), False)) is None
