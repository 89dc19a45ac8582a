"""Square matrices of integers, as lists of rows."""


def inverse(matrix):
    """The pair (number, rows): the matrix times the rows is the number times the unit matrix.

    The number is the determinant; None if one of the leading minors, itself included, is not above 0.
    """
    many = len(matrix)
    rows = [[*row, *unit(at, many)] for at, row in enumerate(matrix)]
    last = 1
    for at in range(many):
        chosen = rows[at]
        pivot = chosen[at]
        if pivot <= 0:
            return None
        rows = [row if to == at else cleared(row, chosen, at, last) for to, row in enumerate(rows)]
        last = pivot
    return (last, [row[many:] for row in rows])


def unit(at, many):
    return [1 if to == at else 0 for to in range(many)]


def cleared(row, chosen, at, last):
    """The row with so much of the chosen one taken away that 0 is left at this place."""
    pivot, factor = chosen[at], row[at]
    # All of these are minors times minors: by a rule of Bareiss the last pivot divides them.
    return [(number * pivot - taken * factor) // last for number, taken in zip(row, chosen)]
