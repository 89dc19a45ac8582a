"""Lasting rests, and what loads do to them."""

from everyload.effects import effects_of
from everyload.errors import InvalidRest, NotLasting, UnknownKind
from everyload.handlers import check_load
from everyload.loads import Load
from everyload.smith import smith_numbers
from everyload.ways import load_of
from everyload.webs import check_web


def lasting_count(web):
    """The number of lasting rests."""
    check_web(web)
    return effects_of(web).number


def factors(web):
    """The lengths of rings, each a divisor of the next one, whose places are the effects of loads."""
    check_web(web)
    return tuple([number for number in smith_numbers(effects_of(web).grid) if number > 1])


def some_lasting(web):
    """A lasting rest."""
    check_web(web)
    rests = 1
    for handler in web.handlers:
        rests = rests * len(handler.reachable)
    # Each time that it is run, the load leads to a new rest, or else to a lasting one, which it leads to itself.
    return web.run(idle_load(web) * rests).rest


def is_lasting(web, rest):
    """Whether a rest is lasting."""
    check_web(web)
    check_rest(web, rest)
    return lasts(web, rest)


def idle(web, load):
    """Whether the load leads each lasting rest to itself."""
    check_web(web)
    check_load(load, web.kinds)
    return effects_of(web).is_idle(counts_of(web, load))


def same_effect(web, one, other):
    """Whether two loads lead each lasting rest to the same rest."""
    check_web(web)
    check_load(one, web.kinds)
    check_load(other, web.kinds)
    counts = [count - less for count, less in zip(counts_of(web, one), counts_of(web, other))]
    return effects_of(web).is_idle(counts)


def period(web, kind):
    """The least number of messages of the kind, at least 1, that are an idle load."""
    check_web(web)
    if not isinstance(kind, str) or kind not in web.kinds:
        raise UnknownKind(kind)
    return effects_of(web).periods[web.kinds.index(kind)]


def undoing(web, load):
    """A load that is idle together with this one."""
    check_web(web)
    check_load(load, web.kinds)
    return reduced_load(web, [-count for count in counts_of(web, load)])


def between(web, rest, other):
    """A load that leads one lasting rest to another."""
    check_web(web)
    for value in (rest, other):
        check_rest(web, value)
        if not lasts(web, value):
            raise NotLasting(value)
    begins, ends = web.states_of(rest), web.states_of(other)
    counts = [0 for _ in web.kinds]
    for home, handler in enumerate(web.handlers):
        moved = moving_load(web, home, begins[home], ends[home])
        _, sent = handler.after(moved, state=begins[home])
        # Had these been taken by the handler, there would still wait what it sends meanwhile.
        counts = [count + moved[kind] - sent[kind] for count, kind in zip(counts, web.kinds)]
    return reduced_load(web, counts)


def check_rest(web, rest):
    if not web.is_rest(rest):
        raise InvalidRest(rest)


def counts_of(web, load):
    return [load[kind] for kind in web.kinds]


def idle_load(web):
    """An idle load in which each kind of the web has a count."""
    return load_of(web.kinds, effects_of(web).whole)


def lasts(web, rest):
    # An idle load leads lasting rests to themselves, and none but these if it has all kinds.
    return web.run(idle_load(web), rest=rest).rest == web.states_of(rest)


def reduced_load(web, counts):
    """The load with the effect of these counts, perhaps below 0, in which each is less than the kind's period."""
    return load_of(web.kinds, [count % each for count, each in zip(counts, effects_of(web).periods)])


def moving_load(web, home, state, behind):
    """A load of the kinds of one handler that leads it from one state of lasting rests to another."""
    side = effects_of(web).sides[home]
    lengths = [web.plan.lengths[at] for at in side.own]
    counts = [count % length for count, length in zip(side.between(state, behind), lengths)]
    return load_of(web.handlers[home].kinds, counts)
