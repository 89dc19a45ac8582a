"""What stands in claims and papers, whoever made them.

Here nothing is taken on trust, not even how a value compares, or how many elements it tells: only Python's own tuples,
strings and integers pass, and nothing derived from them.
"""

from everyload.errors import Endless, Heeds, InvalidText, TooManyKinds
from everyload.handlers import Handler
from everyload.limits import MOST_TERMS
from everyload.pairs import are_ascending
from everyload.webs import Web


def is_row(value):
    return type(value) == tuple


def is_row_of(value, many):
    """Whether this is a tuple of so many elements."""
    return is_row(value) and len(value) == many


def is_string(value):
    return type(value) == str


def is_integer(value):
    return type(value) == int


def is_state(value, handler):
    """Whether this is the number of a state of the handler, reachable or not."""
    return is_integer(value) and 0 <= value < len(handler)


def is_rest(value, web):
    return is_row(value) and all([is_integer(state) for state in value]) and web.is_rest(value)


def is_named(value):
    """Whether this is a pair of a string and an integer."""
    return is_row_of(value, 2) and is_string(value[0]) and is_integer(value[1])


def is_outs(value):
    """Whether these are the pairs of a load."""
    return is_row(value) and all([is_named(pair) for pair in value]) and are_ascending(value)


def is_load(value, kinds):
    """Whether these are the pairs of a load of the kinds."""
    return is_outs(value) and all([name in kinds for name, _ in value])


def are_different(values):
    """Whether no two of these are equal; they are strings, integers, or tuples of such."""
    return len({value: True for value in values}) == len(values)


def are_some_kinds(value, kinds):
    """Whether this is a tuple of one or more of the kinds, different ones."""
    if not is_row(value) or len(value) == 0 or not all([is_string(kind) for kind in value]):
        return False
    return all([kind in kinds for kind in value]) and are_different(value)


def are_terms(value, entries, web):
    """Whether these are terms of a sum over the entries and the outs of a web."""
    if not is_row(value) or not 1 <= len(value) <= MOST_TERMS or not all([is_named(term) for term in value]):
        return False
    names = [name for name, _ in value]
    return all([name in entries or name in web.outs for name in names]) and are_different(names)


def web_with(text):
    """The web with this text, None if there is none."""
    if not is_string(text):
        return None
    try:
        return Web.read(text)
    except (InvalidText, Heeds, TooManyKinds, Endless):
        return None


def handler_with(text):
    """The handler with this text, None if there is none."""
    if not is_string(text):
        return None
    try:
        return Handler.read(text)
    except (InvalidText, Heeds):
        return None
