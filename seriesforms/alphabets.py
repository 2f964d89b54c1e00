"""The letters of several formulas together."""


def least_clash(formulas):
    """The least name that is full in one of the formulas and not in another one, or None."""
    known = {}
    clashes = []
    for formula in formulas:
        for letter in formula.letters:
            if letter.name not in known:
                known[letter.name] = letter.full
            elif known[letter.name] != letter.full:
                clashes.append(letter.name)
    return min(clashes, default=None)


def merged_letters(formulas):
    """The letters of all of the formulas, ascending by their names, those with one name once."""
    known = {}
    for formula in formulas:
        for letter in formula.letters:
            known[letter.name] = letter
    return tuple([known[name] for name in sorted(list(known))])


def patterns_of(alphabet):
    """All patterns of one place, ascending."""
    patterns = [()]
    for letter in alphabet:
        choices = (0,) if letter.full else (0, 1)
        patterns = [pattern + (gap,) for pattern in patterns for gap in choices]
    return patterns
