"""Integers of at least 0 and their texts.

Python itself turns no integer of more than some thousand figures into a text, or back;
counts of loads may grow beyond that. So both go by pieces here.
"""

FIGURES = "0123456789"
PIECE = 64


def figures_of(number):
    """The text of an integer of at least 0, however great."""
    base = 10 ** 64
    pieces = []
    while number >= base:
        number, low = divmod(number, base)
        pieces.append(str(low).zfill(PIECE))
    pieces.append(str(number))
    return "".join(pieces[::-1])


def read_figures(text):
    """The integer with this text, None if there is none."""
    if text == "" or not all([sign in FIGURES for sign in text]):
        return None
    if text[0] == "0" and text != "0":
        return None
    number = 0
    for at in range(0, len(text), PIECE):
        piece = text[at:at + PIECE]
        number = number * 10 ** (len(piece) % 65) + int(piece)
    return number
