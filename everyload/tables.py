"""Tables of steps: for each state a row with a step (state that follows, pairs that are sent) for each kind."""

from everyload.closures import all_behind
from everyload.figures import read_figures
from everyload.limits import MOST_KINDS, MOST_STATES
from everyload.names import is_place, wrong_name_at
from everyload.pairs import added, are_ascending, pairs_text, plain_pairs, read_pairs


def is_step(value, states):
    if not isinstance(value, tuple) or len(value) != 2:
        return False
    state, pairs = value
    return is_place(state, states) and isinstance(pairs, tuple) and are_ascending(pairs)


def is_row(value, states, kinds):
    """Whether this is a row of a table with so many states and kinds."""
    if not isinstance(value, tuple) or len(value) != kinds:
        return False
    return all([is_step(step, states) for step in value])


def wrong_row_at(rows, kinds):
    """The index of the first wrong row of a table with so many kinds, None if there is none."""
    for at, row in enumerate(rows):
        if not is_row(row, len(rows), kinds):
            return at
    return None


def plain_rows(rows):
    """Valid rows, of nothing but Python's own tuples, strings and ints."""
    return tuple([plain_row(row) for row in rows])


def plain_row(row):
    return tuple([(int(state), plain_pairs(pairs)) for state, pairs in row])


def reachable_states(rows):
    """The states to which steps lead from state 0, ascending."""
    found = all_behind(0, lambda state: [follows for follows, _ in rows[state]])
    return tuple(sorted([int(state) for state in found]))


def names_sent(rows, states):
    """The names that the steps at these states send, ascending."""
    found = {}
    for state in states:
        for _, pairs in rows[state]:
            for name, _ in pairs:
                found[name] = True
    return tuple(sorted([str(name) for name in found]))


def heeds_at(rows, state, one, other):
    """Whether it matters there which of two messages, of kinds given by their places, is taken first."""
    first, second = rows[state][one], rows[state][other]
    behind_first, behind_second = rows[first[0]][other], rows[second[0]][one]
    if behind_first[0] != behind_second[0]:
        return True
    if first[1] == behind_second[1] and second[1] == behind_first[1]:
        return False
    return added(first[1], behind_first[1]) != added(second[1], behind_second[1])


def first_heeding(rows, kinds, states):
    """The first of the states that heeds, with the first two places of kinds, None if none does."""
    for state in states:
        for one in range(kinds):
            for other in range(one + 1, kinds):
                if heeds_at(rows, state, one, other):
                    return (state, one, other)
    return None


def repeated(rows, place, start, count):
    """The state behind so many messages of one kind, and how many of them each state took."""
    path = []
    known = {}
    state = start
    while len(path) < count and state not in known:
        known[state] = len(path)
        path.append(state)
        state = rows[state][place][0]
    left = count - len(path)
    if left == 0:
        return (state, {on_path: 1 for on_path in path})
    # Here the path has come back to one of its states: the rest of it goes round from there.
    ring = path[known[state]:]
    rounds, more = divmod(left, len(ring))
    taken = {on_path: 1 for on_path in path}
    for at, on_ring in enumerate(ring):
        taken[on_ring] = 1 + rounds + (1 if at < more else 0)
    return (ring[more], taken)


def table_text(kinds, rows):
    lines = [" ".join(["takes", *kinds])]
    for state, row in enumerate(rows):
        for kind, step in zip(kinds, row):
            lines.append(step_text(state, kind, step))
    return "\n".join(lines)


def step_text(state, kind, step):
    follows, pairs = step
    sends = f" sends {pairs_text(pairs)}" if pairs else ""
    return f"{state} {kind} {follows}{sends}"


def read_table(text):
    """The pair of the kinds and the rows with this text, None if there is none; the table may heed."""
    lines = text.split("\n")
    words = lines[0].split(" ")
    kinds = tuple(words[1:])
    if words[0] != "takes" or not 1 <= len(kinds) <= MOST_KINDS or wrong_name_at(kinds) is not None:
        return None
    states, over = divmod(len(lines) - 1, len(kinds))
    if over != 0 or not 1 <= states <= MOST_STATES:
        return None
    rows = tuple([read_row(lines, state, kinds) for state in range(states)])
    return (kinds, rows) if wrong_row_at(rows, len(kinds)) is None else None


def read_row(lines, state, kinds):
    """The row of a state, or what `is_row` refuses."""
    first = 1 + state * len(kinds)
    return tuple([read_step(lines[first + at], f"{state} {kind} ") for at, kind in enumerate(kinds)])


def read_step(line, head):
    """The step on a line that begins with this head, or what `is_step` refuses."""
    if not line.startswith(head):
        return None
    follows, sends, load = line[len(head):].partition(" sends ")
    if sends != "" and load == "":
        return None
    return (read_figures(follows), read_pairs(load))
