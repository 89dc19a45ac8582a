"""What the document says of claims and papers, written down once more in the plainest way, and papers with faults."""

import itertools

from everyload.errors import Endless, Heeds, InvalidText, TooManyKinds
from everyload.handlers import Handler
from everyload.loads import Load
from everyload.webs import Web
from tests.tables import deliver
from tests.webs import one_by_one


class Bad(Exception):
    """This is not so, or has not the form."""


def due(condition):
    if not condition:
        raise Bad()


def tuple_of(value, many=None):
    due(type(value) is tuple and many in (None, len(value)))
    return value


def integer(value):
    due(type(value) is int)
    return value


def read(kind, text):
    due(type(text) is str)
    try:
        return kind.read(text)
    except (InvalidText, Heeds, TooManyKinds, Endless):
        raise Bad() from None


def load_told(value, kinds=None):
    names = []
    for pair in tuple_of(value):
        name, count = tuple_of(pair, 2)
        due(type(name) is str and 1 <= len(name) <= 8 and name.isascii() and name.isalnum() and name == name.lower())
        due(name[0].isalpha() and integer(count) >= 1 and (kinds is None or name in kinds))
        names.append(name)
    due(names == sorted(set(names)))
    return Load(*value)


def rest_told(value, web):
    for state, handler in zip(tuple_of(value, len(web.handlers)), web.handlers):
        due(integer(state) in handler.reachable)
    return value


def names_told(value, names):
    for name in tuple_of(value):
        due(type(name) is str and name in names)
    due(0 < len(value) == len(set(value)))
    return value


def terms_told(value, entries, web):
    due(1 <= len(tuple_of(value)) <= 6)
    for term in value:
        name, number = tuple_of(term, 2)
        due(type(name) is str and (name in entries or name in web.outs))
        integer(number)
    due(len(dict(value)) == len(value))
    return dict(value)


def worth(terms, load, outs):
    return sum(number * (load[name] + outs[name]) for name, number in terms.items())


def run(web, load, rest):
    """Rest and outs; by single messages if these are few."""
    if load.size < 200:
        return one_by_one(web, load, rest)[:2]
    outcome = web.run(load, rest=rest)
    return outcome.rest, outcome.outs


def different(members, start):
    due(len(set(members)) == len(members) and start in members)


def judge_one(paper, text, entries, other):
    web, handler = read(Web, text), read(Handler, other)
    names_told(entries, web.kinds)
    due(sorted(entries) == sorted(handler.kinds))
    for pair in tuple_of(paper):
        rest, state = tuple_of(pair, 2)
        rest_told(rest, web)
        due(0 <= integer(state) < len(handler))
    different(paper, (web.start, 0))
    for rest, state in paper:
        for entry in entries:
            behind, outs = run(web, Load((entry, 1)), rest)
            follows, sent = handler.step(state, entry)
            due(sent == outs and (behind, follows) in paper)


def judge_alike(paper, text, other, entries):
    web, second = read(Web, text), read(Web, other)
    names_told(entries, web.kinds)
    names_told(entries, second.kinds)
    for pair in tuple_of(paper):
        rest_told(tuple_of(pair, 2)[0], web)
        rest_told(pair[1], second)
    different(paper, (web.start, second.start))
    for one, two in paper:
        for entry in entries:
            load = Load((entry, 1))
            due(run(web, load, one)[1] == run(second, load, two)[1])
            due((run(web, load, one)[0], run(second, load, two)[0]) in paper)


def judge_unlike(paper, text, other, entries):
    web, second = read(Web, text), read(Web, other)
    names_told(entries, web.kinds)
    names_told(entries, second.kinds)
    load = load_told(paper, entries)
    due(run(web, load, web.start)[1] != run(second, load, second.start)[1])


def judge_never_above(paper, text, entries, terms, number):
    web = read(Web, text)
    told = terms_told(terms, names_told(entries, web.kinds), web)
    for pair in tuple_of(paper):
        rest_told(tuple_of(pair, 2)[0], web)
        due(integer(pair[1]) <= integer(number))
    integer(number)
    different([rest for rest, _ in paper], web.start)
    heights = dict(paper)
    due(heights[web.start] >= 0)
    for rest, height in paper:
        for entry in entries:
            behind, outs = run(web, Load((entry, 1)), rest)
            due(behind in heights and heights[behind] >= height + worth(told, Load((entry, 1)), outs))


def judge_above(paper, text, entries, terms, number):
    web = read(Web, text)
    told = terms_told(terms, names_told(entries, web.kinds), web)
    load = load_told(paper, entries)
    due(worth(told, load, run(web, load, web.start)[1]) > integer(number))


def judge_without_end(paper, text, entries, terms):
    web = read(Web, text)
    told = terms_told(terms, names_told(entries, web.kinds), web)
    first, second = [load_told(pairs, entries) for pairs in tuple_of(paper, 2)]
    rest, _ = run(web, first, web.start)
    behind, outs = run(web, second, rest)
    due(behind == rest and worth(told, second, outs) > 0)


def rows_told(rows, web):
    """The last of these rows, if all are right."""
    due(len(tuple_of(rows)) > 0)
    for at, row in enumerate(rows):
        first, pairs, last, outs, how = tuple_of(row, 5)
        rest_told(first, web)
        rest_told(last, web)
        load, sent = load_told(pairs, web.kinds), load_told(outs)
        if how is None:
            due(first == last and load == Load() == sent)
            continue
        due(len(tuple_of(how)) > 1 and type(how[0]) is str and 0 <= integer(how[1]) < at)
        one = rows[how[1]]
        if how[0] == "take":
            tuple_of(how, 2)
            due(load.size == 1)
            kind = load.names[0]
            home = web.place(kind)
            follows, more = web.handlers[home].step(first[home], kind)
            due(one[0] == first[:home] + (follows,) + first[home + 1:] and one[2] == last)
            due(Load(*one[1]) == Load(*[pair for pair in more.pairs if pair[0] in web.kinds]))
            due(sent == Load(*one[3]) + Load(*[pair for pair in more.pairs if pair[0] not in web.kinds]))
        elif how[0] == "then":
            due(0 <= integer(tuple_of(how, 3)[2]) < at)
            two = rows[how[2]]
            due((first, one[2], two[2]) == (one[0], two[0], last))
            due(load == Load(*one[1]) + Load(*two[1]) and sent == Load(*one[3]) + Load(*two[3]))
        else:
            due(how[0] == "times" and integer(tuple_of(how, 3)[2]) >= 1)
            due(one[0] == one[2] == first == last)
            due(load == Load(*one[1]) * how[2] and sent == Load(*one[3]) * how[2])
    return rows[-1]


def judge_run(paper, text, first, pairs, last, outs):
    web = read(Web, text)
    rest_told(first, web)
    rest_told(last, web)
    load_told(pairs, web.kinds)
    load_told(outs)
    due(rows_told(paper, web)[:4] == (first, pairs, last, outs))


def judge_idle(paper, text, pairs, idle=True):
    web = read(Web, text)
    load_told(pairs, web.kinds)
    rest, around, moved = tuple_of(paper, 3)
    rest_told(rest, web)
    row, other = rows_told(around, web), rows_told(moved, web)
    due(row[0] == row[2] == rest and len(row[1]) == len(web.kinds))
    due(other[:2] == (rest, pairs) and (other[2] == rest) is idle)


def judge_not_idle(paper, text, pairs):
    judge_idle(paper, text, pairs, idle=False)


def judge_apart(paper, text, kinds):
    handler = read(Handler, text)
    due(0 < len(names_told(kinds, handler.kinds)) < len(handler.kinds))
    for triple in tuple_of(paper):
        for state in tuple_of(triple, 3):
            due(0 <= integer(state) < len(handler))
    different(paper, (0, 0, 0))
    for both, one, other in paper:
        for kind in handler.kinds:
            follows, sent = handler.step(both, kind)
            behind, alone = handler.step(one if kind in kinds else other, kind)
            due(sent == alone and ((follows, behind, other) if kind in kinds else (follows, one, behind)) in paper)


def judge_meddle(paper, text, kinds):
    handler = read(Handler, text)
    due(0 < len(names_told(kinds, handler.kinds)) < len(handler.kinds))
    load = load_told(paper, handler.kinds)
    own = Load(*[pair for pair in paper if pair[0] in kinds])
    due(handler.after(load)[1] != handler.after(own)[1] + handler.after(load - own)[1])


def judge_fewest(paper, text):
    handler = read(Handler, text)
    ways, tests = tuple_of(paper, 2)
    loads = [load_told(pairs, handler.kinds) for pairs in tuple_of(ways, len(handler))]
    states = [handler.after(load)[0] for load in loads]
    due(len(set(states)) == len(handler))
    pairs = [(one, other) for other in range(len(states)) for one in range(other)]
    for (one, other), test in zip(pairs, tuple_of(tests, len(pairs))):
        load = load_told(test, handler.kinds)
        messages = [kind for kind, count in load.pairs for _ in range(count)]
        due(deliver(handler.rows, handler.kinds, messages, states[one])[1]
            != deliver(handler.rows, handler.kinds, messages, states[other])[1])


JUDGES = {
    "one": (judge_one, 4), "alike": (judge_alike, 4), "unlike": (judge_unlike, 4),
    "never above": (judge_never_above, 5), "above": (judge_above, 5), "without end": (judge_without_end, 4),
    "run": (judge_run, 6), "idle": (judge_idle, 3), "not idle": (judge_not_idle, 3), "apart": (judge_apart, 3),
    "meddle": (judge_meddle, 3), "fewest": (judge_fewest, 2),
}


def so(claim, paper):
    """Whether the claim is so and the paper shows it."""
    if type(claim) is not tuple or not claim or type(claim[0]) is not str or claim[0] not in JUDGES:
        return False
    judge, many = JUDGES[claim[0]]
    try:
        due(len(claim) == many)
        judge(paper, *claim[1:])
    except Bad:
        return False
    return True


def faulty(value, source, depth=0):
    """The value with one fault somewhere: an element replaced, left out, put in twice, moved or changed a little."""
    if type(value) is tuple and value and (source.random() < 0.8 or depth == 0):
        at = source.randrange(len(value))
        word = source.choice(("in", "in", "in", "in", "out", "twice", "moved", "kind"))
        if word == "in":
            return value[:at] + (faulty(value[at], source, depth + 1),) + value[at + 1:]
        if word == "out":
            return value[:at] + value[at + 1:]
        if word == "twice":
            return value[:at] + (value[at],) + value[at:]
        if word == "moved":
            left = value[:at] + value[at + 1:]
            to = source.randrange(len(value))
            return left[:to] + (value[at],) + left[to:]
        return source.choice((list(value), dict(enumerate(value)), None, value[0], (value,), str(value), 0))
    return source.choice((None, True, False, 0, 1, -1, 2, 7, 10 ** 45, "", "a", "b", "x", [], (), {}, [value], (value,),
                          {1: value}, value + 1 if type(value) is int else value, value - 1 if type(value) is int else 0,
                          value + "a" if type(value) is str else "1 a"))


def exchanged(pairs):
    """All claims with all papers."""
    return [(claim, paper) for (claim, _), (_, paper) in itertools.product(pairs, repeat=2)]
