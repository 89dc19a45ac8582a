"""Handlers of some common manners, and a web of them."""

from everyload.errors import InvalidName, InvalidNames, InvalidNumber, NotALoad
from everyload.handlers import Handler
from everyload.limits import MOST_KINDS, MOST_STATES
from everyload.loads import Load
from everyload.names import check_kinds, is_at_least, is_name
from everyload.webs import Web


def every(kinds, count, out):
    """The handler that sends one `out` with every `count`-th message of its kinds, counted together."""
    check_kinds(kinds, MOST_KINDS)
    if not is_at_least(count, 1) or count > MOST_STATES:
        raise InvalidNumber(count)
    check_name(out)
    steps = [(state + 1, ()) for state in range(count - 1)]
    steps.append((0, ((out, 1),)))
    return Handler(kinds, tuple([tuple([step for _ in kinds]) for step in steps]))


def dealer(kind, outs):
    """The handler that sends these names in turn, one with each message of its kind."""
    check_name(kind)
    if not isinstance(outs, tuple) or not 1 <= len(outs) <= MOST_STATES:
        raise InvalidNames(None)
    for at, out in enumerate(outs):
        if not is_name(out):
            raise InvalidNames(at)
    last = len(outs) - 1
    return Handler((kind,), tuple([((at + 1 if at < last else 0, ((out, 1),)),) for at, out in enumerate(outs)]))


def copier(kind, sent):
    """The handler with one state that sends this load each time."""
    check_name(kind)
    if not isinstance(sent, Load):
        raise NotALoad(sent)
    return Handler((kind,), (((0, sent.pairs),),))


def sample_web():
    """A web of four handlers, for trials."""
    last = Handler.read("takes box\n0 box 1 sends 1 label\n1 box 0 sends 1 label, 1 paint")
    counted = every(("piece", "paint"), 3, "box")
    return Web(dealer("order", ("cut", "paint")), copier("cut", Load(("piece", 2))), counted, last)


def check_name(value):
    if not is_name(value):
        raise InvalidName(value)
