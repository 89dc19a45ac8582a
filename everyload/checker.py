"""The checker: whether papers show what is claimed. It takes steps and adds, and searches nothing."""

from everyload.folding import Singles
from everyload.loads import Load
from everyload.proofs import shown_by
from everyload.shapes import are_different, are_some_kinds, are_terms, handler_with, is_integer, is_load
from everyload.shapes import is_outs, is_rest, is_row, is_row_of, is_state, is_string, web_with
from everyload.terms import sum_of


def is_closed(members, start, lead):
    """Whether these are different and the start is among them, and so is all to which each of them leads.

    `lead` tells a list of this, or None if a member does not stand for the same being sent.
    """
    known = {member: True for member in members}
    if len(known) != len(members) or start not in known:
        return False
    for member in members:
        follows = lead(member)
        if follows is None or not all([behind in known for behind in follows]):
            return False
    return True


def is_one(told, paper):
    """("one", WEB, ENTRIES, HANDLER)"""
    text, entries, other = told
    web, handler = web_with(text), handler_with(other)
    if web is None or handler is None or not are_some_kinds(entries, web.kinds):
        return False
    if sorted([str(entry) for entry in entries]) != sorted([str(kind) for kind in handler.kinds]):
        return False
    if not is_row(paper) or not all([is_rest_and_state(pair, web, handler) for pair in paper]):
        return False
    singles = Singles(web, entries)
    places = [handler.kinds.index(entry) for entry in entries]
    return is_closed(paper, (web.start, 0), lambda pair: one_behind(pair, singles, handler.rows, places))


def is_rest_and_state(value, web, handler):
    return is_row_of(value, 2) and is_rest(value[0], web) and is_state(value[1], handler)


def one_behind(pair, singles, table, places):
    """The pairs of rests and states behind a message of each entry; None if not the same is sent."""
    rest, state = pair
    follows = []
    for at, place in enumerate(places):
        outcome = singles.outcome(rest, at)
        behind, sent = table[state][place]
        if outcome.outs.pairs != sent:
            return None
        follows.append((outcome.rest, behind))
    return follows


def webs_with(text, other, entries):
    """The webs with these texts, if the entries are kinds of both; None."""
    web, second = web_with(text), web_with(other)
    if web is None or second is None or not are_some_kinds(entries, web.kinds):
        return None
    return (web, second) if are_some_kinds(entries, second.kinds) else None


def is_alike(told, paper):
    """("alike", WEB, WEB, ENTRIES)"""
    webs = webs_with(*told)
    if webs is None:
        return False
    web, other = webs
    if not is_row(paper) or not all([are_rests(pair, web, other) for pair in paper]):
        return False
    many = len(told[2])
    singles, others = Singles(web, told[2]), Singles(other, told[2])
    return is_closed(paper, (web.start, other.start), lambda pair: both_behind(pair, singles, others, many))


def are_rests(value, web, other):
    return is_row_of(value, 2) and is_rest(value[0], web) and is_rest(value[1], other)


def both_behind(pair, singles, others, many):
    """The pairs of rests behind a message of each entry; None if not the same is sent."""
    follows = []
    for at in range(many):
        one, other = singles.outcome(pair[0], at), others.outcome(pair[1], at)
        if one.outs != other.outs:
            return None
        follows.append((one.rest, other.rest))
    return follows


def is_unlike(told, paper):
    """("unlike", WEB, WEB, ENTRIES)"""
    webs = webs_with(*told)
    if webs is None or not is_load(paper, told[2]):
        return False
    load = Load.of(paper)
    return webs[0].run(load).outs != webs[1].run(load).outs


def sum_web(text, entries, terms):
    """The web with this text, if these are entries of it and terms of a sum over them; None."""
    web = web_with(text)
    if web is None or not are_some_kinds(entries, web.kinds) or not are_terms(terms, entries, web):
        return None
    return web


def is_never_above(told, paper):
    """("never above", WEB, ENTRIES, TERMS, NUMBER)"""
    text, entries, terms, number = told
    web = sum_web(text, entries, terms)
    if web is None or not is_integer(number):
        return False
    if not is_row(paper) or not all([is_height(pair, web, number) for pair in paper]):
        return False
    heights = {rest: height for rest, height in paper}
    if len(heights) != len(paper) or web.start not in heights or heights[web.start] < 0:
        return False
    singles = Singles(web, entries)
    factors = dict(terms)
    for rest in heights:
        for at, entry in enumerate(entries):
            outcome = singles.outcome(rest, at)
            reached = heights[rest] + factors.get(entry, 0) + sum_of(factors, outcome.outs.pairs)
            if outcome.rest not in heights or heights[outcome.rest] < reached:
                return False
    return True


def is_height(value, web, number):
    return is_row_of(value, 2) and is_rest(value[0], web) and is_integer(value[1]) and value[1] <= number


def worth_from(web, rest, pairs, terms):
    """The pair of the rest to which a load leads and its worth on the way."""
    factors = dict(terms)
    outcome = web.run(Load.of(pairs), rest=rest)
    return (outcome.rest, sum_of(factors, pairs) + sum_of(factors, outcome.outs.pairs))


def is_above(told, paper):
    """("above", WEB, ENTRIES, TERMS, NUMBER)"""
    text, entries, terms, number = told
    web = sum_web(text, entries, terms)
    if web is None or not is_integer(number) or not is_load(paper, entries):
        return False
    return worth_from(web, web.start, paper, terms)[1] > number


def is_without_end(told, paper):
    """("without end", WEB, ENTRIES, TERMS)"""
    text, entries, terms = told
    web = sum_web(text, entries, terms)
    if web is None or not is_row_of(paper, 2) or not all([is_load(pairs, entries) for pairs in paper]):
        return False
    rest, _ = worth_from(web, web.start, paper[0], terms)
    behind, worth = worth_from(web, rest, paper[1], terms)
    return behind == rest and worth > 0


def is_run(told, paper):
    """("run", WEB, REST, LOAD, REST, OUTS)"""
    text, first, load, last, outs = told
    web = web_with(text)
    if web is None or not is_rest(first, web) or not is_rest(last, web):
        return False
    if not is_load(load, web.kinds) or not is_outs(outs):
        return False
    shown = shown_by(paper, web)
    return shown is not None and shown[:4] == (first, load, last, outs)


def idle_end(told, paper):
    """The pair of a lasting rest and where the load of the claim leads it, if the paper shows this; None."""
    text, load = told
    web = web_with(text)
    if web is None or not is_load(load, web.kinds) or not is_row_of(paper, 3) or not is_rest(paper[0], web):
        return None
    around, moved = shown_by(paper[1], web), shown_by(paper[2], web)
    if around is None or moved is None:
        return None
    # A rest to which a load of all kinds leads back is a lasting one, and one of these tells of all.
    if around[0] != paper[0] or around[2] != paper[0] or len(around[1]) != len(web.kinds):
        return None
    return (paper[0], moved[2]) if moved[:2] == (paper[0], load) else None


def is_idle(told, paper):
    """("idle", WEB, LOAD)"""
    ends = idle_end(told, paper)
    return ends is not None and ends[0] == ends[1]


def is_not_idle(told, paper):
    """("not idle", WEB, LOAD)"""
    ends = idle_end(told, paper)
    return ends is not None and ends[0] != ends[1]


def halved(text, kinds):
    """The handler with this text, if these are some of its kinds, but not all; None."""
    handler = handler_with(text)
    if handler is None or not are_some_kinds(kinds, handler.kinds) or len(kinds) == len(handler.kinds):
        return None
    return handler


def is_apart(told, paper):
    """("apart", HANDLER, KINDS)"""
    text, kinds = told
    handler = halved(text, kinds)
    if handler is None or not is_row(paper) or not all([are_states(triple, handler) for triple in paper]):
        return False
    sides = [1 if kind in kinds else 2 for kind in handler.kinds]
    return is_closed(paper, (0, 0, 0), lambda triple: apart_behind(triple, handler.rows, sides))


def are_states(value, handler):
    return is_row_of(value, 3) and all([is_state(state, handler) for state in value])


def apart_behind(triple, table, sides):
    """The triples of states behind a message of each kind, which leads on two of them; None if these send not alike."""
    follows = []
    for at, side in enumerate(sides):
        both, sent = table[triple[0]][at]
        alone, own = table[triple[side]][at]
        if sent != own:
            return None
        follows.append((both, alone, triple[2]) if side == 1 else (both, triple[1], alone))
    return follows


def is_meddle(told, paper):
    """("meddle", HANDLER, KINDS)"""
    text, kinds = told
    handler = halved(text, kinds)
    if handler is None or not is_load(paper, handler.kinds):
        return False
    own = Load.of(tuple([pair for pair in paper if pair[0] in kinds]))
    others = Load.of(tuple([pair for pair in paper if pair[0] not in kinds]))
    apart = handler.after(own)[1] + handler.after(others)[1]
    return handler.after(Load.of(paper))[1] != apart


def is_fewest(told, paper):
    """("fewest", HANDLER)"""
    handler = handler_with(told[0])
    if handler is None or not is_row_of(paper, 2) or not all([is_row(part) for part in paper]):
        return False
    ways, tests = paper
    many = len(handler)
    if len(ways) != many or len(tests) != many * (many - 1) // 2:
        return False
    if not all([is_load(pairs, handler.kinds) for part in paper for pairs in part]):
        return False
    states = [handler.after(Load.of(way))[0] for way in ways]
    both = [(one, other) for other in range(many) for one in range(other)]
    if not are_different(states):
        return False
    return all([tells_apart(handler, states[one], states[other], test) for (one, other), test in zip(both, tests)])


def tells_apart(handler, one, other, pairs):
    """Whether the load is not sent the same from two states."""
    load = Load.of(pairs)
    return handler.after(load, state=one)[1] != handler.after(load, state=other)[1]


# What begins with these words, and how many elements stand behind them.
CHECKS = {
    "one": is_one, "alike": is_alike, "unlike": is_unlike, "never above": is_never_above, "above": is_above,
    "without end": is_without_end, "run": is_run, "idle": is_idle, "not idle": is_not_idle, "apart": is_apart,
    "meddle": is_meddle, "fewest": is_fewest,
}
LENGTHS = {
    "one": 3, "alike": 3, "unlike": 3, "never above": 4, "above": 4, "without end": 3, "run": 5, "idle": 2,
    "not idle": 2, "apart": 2, "meddle": 2, "fewest": 1,
}


def holds(claim, paper):
    """Whether the claim is so, and the paper shows it."""
    if not is_row(claim) or len(claim) == 0 or not is_string(claim[0]) or claim[0] not in LENGTHS:
        return False
    if len(claim) != 1 + LENGTHS[claim[0]]:
        return False
    check = CHECKS[claim[0]]
    return check(claim[1:], paper)
