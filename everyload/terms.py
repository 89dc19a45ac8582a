"""The terms of sums (point 13 of the document)."""

from everyload.errors import InvalidTerms
from everyload.limits import MOST_TERMS
from everyload.names import is_number, plain_name


def is_term(value, names):
    """Whether this is a pair of one of the names and an integer."""
    if not isinstance(value, tuple) or len(value) != 2:
        return False
    return isinstance(value[0], str) and value[0] in names and is_number(value[1])


def check_terms(terms, entries, outs):
    """Raise InvalidTerms if these are no terms of a sum over entries and outs."""
    if not isinstance(terms, tuple) or not 1 <= len(terms) <= MOST_TERMS:
        raise InvalidTerms(None)
    names = [*entries, *outs]
    ahead = {}
    for at, term in enumerate(terms):
        if not is_term(term, names) or term[0] in ahead:
            raise InvalidTerms(at)
        ahead[term[0]] = True


def plain_terms(terms):
    """Valid terms, of nothing but Python's own tuples, strings and ints."""
    return tuple([(plain_name(name), int(number)) for name, number in terms])


def sum_of(factors, pairs):
    """What pairs are worth; `factors` is a dict of the terms."""
    return sum([factors[name] * count for name, count in pairs if name in factors])
