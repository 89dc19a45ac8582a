"""What serves as an integer, as a name and as a row of names."""

from everyload.errors import InvalidKinds

LETTERS = "abcdefghijklmnopqrstuvwxyz"
SIGNS = "abcdefghijklmnopqrstuvwxyz0123456789"
MOST_SIGNS = 8


def is_number(value):
    # Python counts True and False among the ints, the document does not.
    return isinstance(value, int) and not isinstance(value, bool)


def is_at_least(value, least):
    return is_number(value) and value >= least


def is_place(value, places):
    """Whether the value counts one of so many places, from 0 on."""
    return is_number(value) and 0 <= value < places


def is_name(value):
    if not isinstance(value, str) or not 1 <= len(value) <= MOST_SIGNS:
        return False
    return value[0] in LETTERS and all([sign in SIGNS for sign in value])


def plain_name(name):
    # What derives from str may show itself as another text than the one it holds: a slice does not.
    return name[:]


def wrong_name_at(names):
    """The index of the first one that is no name or stands ahead already, None if there is none."""
    seen = {}
    for at, name in enumerate(names):
        if not is_name(name) or name in seen:
            return at
        seen[name] = True
    return None


def wrong_choice_at(names, own):
    """The index of the first one that is none of one's own names or stands ahead already, None if there is none."""
    ahead = {}
    for at, name in enumerate(names):
        if not isinstance(name, str) or name not in own or name in ahead:
            return at
        ahead[name] = True
    return None


def check_kinds(kinds, most):
    """Raise InvalidKinds if this is no tuple of different names, as many as `most` (None: any number)."""
    if not isinstance(kinds, tuple) or len(kinds) == 0:
        raise InvalidKinds(None)
    if most is not None and len(kinds) > most:
        raise InvalidKinds(None)
    wrong = wrong_name_at(kinds)
    if wrong is not None:
        raise InvalidKinds(wrong)
