"""The errors that the program raises: three classes, and those that are derived from them."""


class GivenError(ValueError):
    """What was given is not of the kind or form that is asked for."""


class InvalidNumber(GivenError):
    """What was given is no number, or no integer where one is asked for."""

    def __init__(self, given):
        self.given = given


class InvalidText(GivenError):
    """What was given is no string, or not of the form that is asked for."""

    def __init__(self, given):
        self.given = given


class InvalidCount(GivenError):
    """What was given is no integer within the bounds."""

    def __init__(self, given):
        self.given = given


class InvalidName(GivenError):
    """What was given is no name."""

    def __init__(self, given):
        self.given = given


class InvalidTruth(GivenError):
    """What was given is neither True nor False."""

    def __init__(self, given):
        self.given = given


class InvalidEntries(GivenError):
    """What was given is no tuple of numbers and None."""

    def __init__(self, given):
        self.given = given


class InvalidData(GivenError):
    """What was given is no dict."""

    def __init__(self, given):
        self.given = given


class InvalidLength(GivenError):
    """What was given is no length."""

    def __init__(self, given):
        self.given = given


class InvalidPath(GivenError):
    """What was given is no path to a part of the formula."""

    def __init__(self, given):
        self.given = given


class InvalidClaim(GivenError):
    """What was given is no claim of a sheet."""

    def __init__(self, given):
        self.given = given


class InvalidIndex(GivenError):
    """What was given is no index of a claim."""

    def __init__(self, given):
        self.given = given


class NotAFormula(GivenError):
    """What was given is no formula."""

    def __init__(self, given):
        self.given = given


class NotASeries(GivenError):
    """What was given is no series."""

    def __init__(self, given):
        self.given = given


class NotARunner(GivenError):
    """What was given is no runner."""

    def __init__(self, given):
        self.given = given


class TextError(GivenError):
    """A text is wrong at a place."""

    def __init__(self, place):
        self.place = place


class NameProblem(LookupError):
    """A name, or what should stand under it, is missing or in the way."""


class UnknownName(NameProblem):
    """Nothing has this name."""

    def __init__(self, given):
        self.given = given


class Taken(NameProblem):
    """The sheet has this name already."""

    def __init__(self, given):
        self.given = given


class InUse(NameProblem):
    """A definition, or a claim, still has the name."""

    def __init__(self, user):
        self.user = user


class Circular(NameProblem):
    """The text of a definition needs its own name."""

    def __init__(self, given):
        self.given = given


class Clash(NameProblem):
    """Letters with this name are full in one place and not in another one."""

    def __init__(self, given):
        self.given = given


class NoSeries(NameProblem):
    """There is no fitting series for the letter of this name."""

    def __init__(self, given):
        self.given = given


class NoEntry(NameProblem):
    """There is no fitting entry for the letter of this name."""

    def __init__(self, given):
        self.given = given


class NotMade(NameProblem):
    """A definition or a claim of the sheet cannot be made or asked."""

    def __init__(self, given):
        self.given = given


class AnswerError(ArithmeticError):
    """What is asked for cannot be worked out."""


class DividedByZero(AnswerError):
    """A number is divided by 0."""


class TooLarge(AnswerError):
    """A formula goes beyond this limit."""

    def __init__(self, limit):
        self.limit = limit


class TooHeavy(AnswerError):
    """Formulas together go beyond this limit."""

    def __init__(self, limit):
        self.limit = limit


class NotUndoable(AnswerError):
    """The formula has no way back."""

    def __init__(self, reason, place):
        self.reason = reason
        self.place = place


class NoWay(AnswerError):
    """There is no way to go on from this place."""

    def __init__(self, place):
        self.place = place


class Ended(AnswerError):
    """The runner is ended."""


class NothingToUndo(AnswerError):
    """The sheet has no change to take back."""


class Broken(AnswerError):
    """The claim with this index does not hold, as is shown."""

    def __init__(self, index, shown):
        self.index = index
        self.shown = shown
