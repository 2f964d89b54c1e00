"""The limits of formulas, and of what is asked about them."""

MOST_SIZE = 60
MOST_LEVELS = 20
MOST_LEAD = 8
MOST_LOAD = 65536
MOST_WIDTH = 64
MOST_SHIFT = 8
MOST_WINDOW = 7
MOST_SEASON = 12
