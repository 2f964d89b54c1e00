"""Names of letters, and the words that are none."""

MOST_CHARACTERS = 8
LETTERS = "abcdefghijklmnopqrstuvwxyz"
DIGITS = "0123456789"
WORDS = (
    "clock",
    "total",
    "moving",
    "average",
    "smooth",
    "filled",
    "since",
    "season",
    "head",
    "rest",
    "gaps",
    "tally",
    "age",
)


def is_name(value):
    """Whether the value is a name."""
    if not isinstance(value, str) or len(value) < 1 or len(value) > MOST_CHARACTERS:
        return False
    if value in WORDS or value[0] not in LETTERS:
        return False
    return all([sign in LETTERS or sign in DIGITS or sign == "_" for sign in value])
