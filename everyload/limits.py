"""The limits that the program keeps to."""

MOST_KINDS = 8
MOST_HANDLERS = 5
MOST_STATES = 600
MOST_TERMS = 6
MOST_ROWS = 20000
