"""Kinds of a handler that do not meddle with the others."""

from everyload.closures import all_behind
from everyload.errors import InvalidKinds, Meddling
from everyload.folding import least
from everyload.halves import Halves
from everyload.handlers import Handler, check_handler
from everyload.names import wrong_choice_at
from everyload.ways import load_of


def meddling(handler, kinds):
    """The first load for which these kinds and the others meddle, None if they do not."""
    check_handler(handler)
    check_some_kinds(kinds, handler.kinds)
    chosen = places_of(handler, kinds)
    others = [at for at in range(len(handler.kinds)) if at not in chosen]
    if not any([changes(handler, one, other) for one in chosen for other in others]):
        return None
    return load_of(handler.kinds, Halves(handler, chosen).first_parted())


def parts(handler, kinds):
    """The least handlers of these kinds and of the others that together send what the handler sends."""
    load = meddling(handler, kinds)
    if load is not None:
        raise Meddling(load)
    chosen = places_of(handler, kinds)
    others = [at for at in range(len(handler.kinds)) if at not in chosen]
    return (part_of(handler, chosen), part_of(handler, others))


def groups(handler):
    """The kinds in groups, as many as can be, such that each of them and all other kinds do not meddle."""
    check_handler(handler)
    places = list(range(len(handler.kinds)))
    # What is sent is a sum over groups exactly if no kind of the one changes what kinds of another send.
    changed = [[other for other in places if other != at and changes(handler, at, other)] for at in places]
    found = []
    grouped = {}
    for at in places:
        if at not in grouped:
            members = all_behind(at, lambda member: changed[member])
            group = [place for place in places if place in members]
            found.append(tuple([handler.kinds[place] for place in group]))
            for place in group:
                grouped[place] = True
    return tuple(found)


def check_some_kinds(kinds, own):
    """Raise InvalidKinds if these are not one or more of the own kinds, different ones and not all."""
    if not isinstance(kinds, tuple) or not 1 <= len(kinds) < len(own):
        raise InvalidKinds(None)
    wrong = wrong_choice_at(kinds, own)
    if wrong is not None:
        raise InvalidKinds(wrong)


def places_of(handler, kinds):
    """The places of these kinds, ascending."""
    return [at for at, kind in enumerate(handler.kinds) if kind in kinds]


def changes(handler, one, other):
    """Whether somewhere a message of the one kind sends something else behind one of the other."""
    table = handler.rows
    for state in handler.reachable:
        if table[state][one][1] != table[table[state][other][0]][one][1]:
            return True
    return False


def part_of(handler, places):
    """The least handler that does what the handler does for the kinds at these places alone."""
    kinds = tuple([handler.kinds[at] for at in places])
    return least(Handler(kinds, tuple([tuple([row[at] for at in places]) for row in handler.rows])))
