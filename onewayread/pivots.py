"""Exchanges of rows and columns of whole numbers, for matrices without numbers above 0 beside the diagonal.

A matrix, with a divisor below it, tells how some numbers are made of some other ones.
"""


def exchanged(matrix, at, divisor):
    """The matrix in which the number of a row and that of a column have changed places.

    Its divisor is what stood at their crossing. The divisions leave no rest: each entry is
    a determinant of the first matrix.
    """
    crossing = matrix[at][at]
    line = matrix[at]
    found = []
    for number, row in enumerate(matrix):
        if number == at:
            made = [-entry for entry in row]
            made[at] = divisor
        else:
            held = row[at]
            made = [(entry * crossing - held * beside) // divisor for entry, beside in zip(row, line)]
            made[at] = held
        found.append(made)
    return found


def inverse(matrix):
    """The matrix turned round, as (matrix, divisor), or None if that has numbers below 0 or is none.

    With whole numbers at most 0 beside the diagonal, that is so if all crossings are above 0.
    """
    divisor = 1
    for at in range(len(matrix)):
        crossing = matrix[at][at]
        if crossing <= 0:
            return None
        matrix = exchanged(matrix, at, divisor)
        divisor = crossing
    return matrix, divisor
