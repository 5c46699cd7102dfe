"""Whole mixtures of rows of numbers: which rows they are, and dials that tell the others apart."""


def _less(row, times, other):
    """The row less so many times the other one."""
    return tuple([number - times * taken for number, taken in zip(row, other)])


def _joined_rows(held, row, column):
    """Two rows with the same mixtures as these two, of which the second one has 0 in the column."""
    if row[column] % held[column] == 0:
        return held, _less(row, row[column] // held[column], held)
    while row[column] != 0:
        held, row = row, _less(held, held[column] // row[column], row)
    return held, row


def staircase(rows, columns):
    """Rows with the same mixtures as these, by the first column in which they are not 0, and those that are all 0.

    Only so many first columns count; what stands behind them is mixed along.
    """
    found = {}
    left = []
    for row in rows:
        rest = row
        for column in range(columns):
            if rest[column] != 0 and column not in found:
                found[column] = rest
                break
            if rest[column] != 0:
                found[column], rest = _joined_rows(found[column], rest, column)
        else:
            left.append(rest)
    return {column: found[column] for column in sorted(found)}, left


def rest_of(stairs, row):
    """What a mixture of the stairs leaves of the row: the same for just those rows that differ by a mixture."""
    rest = row
    for column, stair in stairs.items():
        rest = _less(rest, rest[column] // stair[column], stair)
    return rest


def _is_diagonal(stairs):
    """Whether each stair has one number but 0; no two stairs have it in one column."""
    return all([len([number for number in stair if number != 0]) == 1 for stair in stairs])


def _turned(rows, sides):
    """The columns of the rows as rows, each with its side behind it."""
    return [tuple([row[column] for row in rows]) + side for column, side in enumerate(sides)]


def lattice_dials(rows, columns):
    """The rounds of dials, and for each of them the marks of the columns.

    A row is a mixture of the rows exactly if its numbers times these marks add up to 0 on each dial.
    """
    present = list(staircase(rows, columns)[0].values())
    sides = [tuple([int(column == other) for other in range(columns)]) for column in range(columns)]
    while not _is_diagonal(present):
        many = len(present)
        stairs, left = staircase(_turned(present, sides), many)
        turned = list(stairs.values()) + left
        sides = [row[many:] for row in turned]
        present = [tuple([row[at] for row in turned]) for at in range(many)]
        present = list(staircase(present, columns)[0].values())
    rounds = [abs(sum([row[column] for row in present])) for column in range(columns)]
    told = [column for column in range(columns) if rounds[column] != 1]
    return [rounds[column] for column in told], [sides[column] for column in told]
