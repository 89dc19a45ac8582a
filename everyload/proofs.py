"""Rows that show where loads lead (ROWS in the document): whether each of them is right.

A row is (rest, load, rest, outs, how): the rests at its ends, the pairs of what was run and of what went out.
"""

from everyload.pairs import added, multiplied
from everyload.shapes import is_integer, is_load, is_outs, is_rest, is_row, is_row_of, is_string


def shown_by(rows, web):
    """The last one of some rows that are all right; None if there are none, or one is not right."""
    if not is_row(rows) or len(rows) == 0:
        return None
    for at, row in enumerate(rows):
        if not has_form(row, web) or not is_right(rows, at, web):
            return None
    return rows[-1]


def has_form(row, web):
    if not is_row_of(row, 5):
        return False
    first, load, last, outs, _ = row
    return is_rest(first, web) and is_load(load, web.kinds) and is_rest(last, web) and is_outs(outs)


def is_right(rows, at, web):
    """Whether the row at this place is right, if those ahead of it are."""
    how = rows[at][4]
    if how is None:
        return is_empty(rows[at])
    if not is_row(how) or len(how) < 2 or not is_string(how[0]) or not is_earlier(how[1], at):
        return False
    one = rows[how[1]]
    if how[0] == "take":
        return len(how) == 2 and is_taken(rows[at], one, web)
    if how[0] == "then":
        return len(how) == 3 and is_earlier(how[2], at) and is_joined(rows[at], one, rows[how[2]])
    return how[0] == "times" and len(how) == 3 and is_repeated(rows[at], one, how[2])


def is_earlier(value, at):
    """Whether this is the number of a row ahead of that at a place."""
    return is_integer(value) and 0 <= value < at


def is_empty(row):
    first, load, last, outs, _ = row
    return load == () and outs == () and first == last


def is_taken(row, behind, web):
    """Whether a row takes one message, and the other one shows what comes of all that this sends."""
    first, load, last, outs, _ = row
    if len(load) != 1 or load[0][1] != 1:
        return False
    kind = load[0][0]
    home = web.place(kind)
    follows, sent = web.handlers[home].step(first[home], kind)
    states = (*first[:home], follows, *first[home + 1:])
    inside = tuple([pair for pair in sent.pairs if pair[0] in web.kinds])
    outside = [pair for pair in sent.pairs if pair[0] not in web.kinds]
    return behind[:3] == (states, inside, last) and outs == added(behind[3], outside)


def is_joined(row, one, other):
    """Whether a row does what two rows do, one behind the other."""
    first, load, last, outs, _ = row
    if first != one[0] or one[2] != other[0] or other[2] != last:
        return False
    return load == added(one[1], other[1]) and outs == added(one[3], other[3])


def is_repeated(row, one, times):
    """Whether a row does what another one, which leads a rest to itself, does so many times over."""
    first, load, last, outs, _ = row
    if not is_integer(times) or times < 1 or one[0] != one[2]:
        return False
    if first != one[0] or last != one[2]:
        return False
    return load == multiplied(one[1], times) and outs == multiplied(one[3], times)
