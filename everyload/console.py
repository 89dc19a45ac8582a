"""A console: it answers lines about a web."""

from everyload.desks import Desk
from everyload.errors import InvalidLine, InvalidText, NothingToUndo
from everyload.figures import figures_of
from everyload.folding import as_one, least
from everyload.lasting import idle, lasting_count, period
from everyload.loads import Load


class Console:
    """Answers lines, with a desk of its own."""

    def __init__(self, web, entries):
        self._desk = Desk(web, entries)

    def say(self, line):
        """The answer to a line."""
        if not isinstance(line, str):
            raise InvalidLine(line)
        answer = answer_of(self._desk, line[:])
        if answer is None:
            raise InvalidLine(line)
        return answer


def answer_of(desk, line):
    """The answer to a line, None if it has no form that there is."""
    word, space, told = line.partition(" ")
    if space == "":
        return plain_answer(desk, word)
    if word == "period":
        return figures_of(period(desk.web, told)) if told in desk.web.kinds else None
    if word == "take":
        load = load_with(told, desk.entries)
        return None if load is None else text_of(desk.take(load))
    load = load_with(told, desk.web.kinds) if word == "idle" else None
    if load is None:
        return None
    return "yes" if idle(desk.web, load) else "no"


def plain_answer(desk, word):
    """The answer to a line of one word, None if there is none."""
    if word == "undo":
        return undone(desk)
    if word == "rest":
        return " ".join([str(state) for state in desk.rest])
    if word == "taken":
        return text_of(desk.taken)
    if word == "sent":
        return text_of(desk.sent)
    if word == "web":
        return str(desk.web)
    if word == "one":
        return str(least(as_one(desk.web, desk.entries)))
    return figures_of(lasting_count(desk.web)) if word == "count" else None


def undone(desk):
    """Take back the last deed, if there is one."""
    try:
        desk.undo()
    except NothingToUndo:
        return "nothing"
    return "ok"


def load_with(text, kinds):
    """The load of these kinds with this text, None if there is none or it is empty."""
    try:
        load = Load.read(text)
    except InvalidText:
        return None
    if len(load) == 0 or not all([name in kinds for name in load.names]):
        return None
    return load


def text_of(load):
    return str(load) if len(load) > 0 else "nothing"
