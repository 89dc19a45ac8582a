"""The normal form of Smith of square matrices of integers with a determinant other than 0, as lists of rows."""


def smith_numbers(matrix):
    """The numbers on the diagonal of the normal form, each above 0 and a divisor of the next one."""
    rows = matrix
    numbers = []
    while len(rows) > 0:
        rows = parted(rows)
        numbers.append(abs(rows[0][0]))
        rows = [row[1:] for row in rows[1:]]
    return numbers


def parted(rows):
    """The matrix changed so that its first number divides all others, which are 0 in its row and its column."""
    now = rows
    while True:
        now = with_least_first(now)
        now = cleared_below(now)
        if not is_clear_below(now):
            continue
        now = turned(cleared_below(turned(now)))
        if not is_clear_below(turned(now)):
            continue
        other = undivided_row(now)
        if other is None:
            return now
        # With this row added there is a lesser number to be had in the first one.
        now = [[one + more for one, more in zip(now[0], now[other])], *now[1:]]
        now = turned(cleared_below(turned(now)))


def with_least_first(rows):
    """Rows and columns are exchanged, so that the first number is the one nearest to 0, but not 0."""
    least = None
    for at, row in enumerate(rows):
        for to, number in enumerate(row):
            if number != 0 and (least is None or abs(number) < least[0]):
                least = (abs(number), at, to)
    _, at, to = least
    return turned(with_first(turned(with_first(rows, at)), to))


def with_first(rows, at):
    return [rows[at], *rows[:at], *rows[at + 1:]]


def turned(rows):
    return [list(column) for column in zip(*rows)]


def cleared_below(rows):
    """The first row is taken from each other one as often as its first number goes into that of the other."""
    first = rows[0]
    new = [first]
    for row in rows[1:]:
        times = row[0] // first[0]
        new.append([number - times * less for number, less in zip(row, first)])
    return new


def is_clear_below(rows):
    return all([row[0] == 0 for row in rows[1:]])


def undivided_row(rows):
    """The place of a row with a number that the first one does not divide, None if there is none."""
    for at, row in enumerate(rows):
        if any([number % rows[0][0] != 0 for number in row]):
            return at
    return None
