"""Tables of handlers and webs, as texts."""

from everyload.figures import figures_of
from everyload.handlers import check_handler
from everyload.sums import means
from everyload.webs import check_web

# The signs of a mean in a table, and its figures behind the point.
WIDTH = 8
FIGURES = 3


def step_table(handler):
    """A line for each state, with the states that follow for each kind."""
    check_handler(handler)
    return "\n".join([step_line(handler, state) for state in range(len(handler))])


def step_line(handler, state):
    if not handler.reaches(state):
        return f"{state} -"
    steps = [f"{kind}>{step[0]}" for kind, step in zip(handler.kinds, handler.rows[state])]
    return " ".join([str(state), *steps])


def mean_table(web):
    """A line for each kind, with the means of its outs."""
    check_web(web)
    longest = max([len(kind) for kind in web.kinds])
    return "\n".join([mean_line(kind, row, longest) for kind, row in means(web)])


def mean_line(kind, row, longest):
    told = [f" {out} {mean_text(over, under).rjust(WIDTH)}" for out, (over, under) in row]
    return "".join([kind.ljust(longest), *told])


def mean_text(over, under):
    """A fraction with some figures behind the point, rounded down."""
    whole, rest = divmod(over * 10 ** 3 // under, 10 ** 3)
    return f"{figures_of(whole)}.{figures_of(rest).zfill(FIGURES)}"
