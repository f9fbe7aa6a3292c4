"""The greatest sum of amounts under limits, in integers alone.

A table has a row for each limit and one for the sum, a column for each amount and one
for the limits. All its entries are over one whole number: the last pivot.
"""


def greatest_sum(rows, limits):
    """The triple (amounts, prices, whole): both are to be divided by whole, which is above 0.

    The amounts, none below 0, have the greatest sum for which no row, each entry times its
    amount, comes to more than its limit. The prices, one for each row and none below 0, have
    the least sum, each times its limit, for which each column comes to at least 1. The entries
    and the limits are above 0.
    """
    many = len(rows[0])
    table = [[*row, limit] for row, limit in zip(rows, limits)]
    table.append([*[-1 for _ in range(many)], 0])
    # whose amount a column and a row stand for: first the amounts, then the rests of the limits
    columns = list(range(many))
    sides = list(range(many, many + len(rows)))
    whole = 1
    column = entering(table, columns)
    while column is not None:
        row = leaving(table, column, sides)
        whole = pivoted(table, row, column, whole)
        columns[column], sides[row] = sides[row], columns[column]
        column = entering(table, columns)
    amounts = [0 for _ in range(many)]
    for row, name in enumerate(sides):
        if name < many:
            amounts[name] = table[row][many]
    prices = [0 for row in rows]
    for column, name in enumerate(columns):
        if name >= many:
            prices[name - many] = table[-1][column]
    return amounts, prices, whole


def entering(table, columns):
    """The column that makes the sum greater, None if there is none."""
    # the one with the least name, and so below: then the same table never comes again
    found = [(name, column) for column, name in enumerate(columns) if table[-1][column] < 0]
    return min(found)[1] if found else None


def leaving(table, column, sides):
    """The row whose limit is met first if the amount of the column grows."""
    best = None
    for row, name in enumerate(sides):
        entry, rest = table[row][column], table[row][-1]
        if entry > 0:
            if best is None:
                best = row
            else:
                ahead = rest * table[best][column] - table[best][-1] * entry
                if ahead < 0 or (ahead == 0 and name < sides[best]):
                    best = row
    return best


def pivoted(table, row, column, whole):
    """The new whole number behind a pivot, which changes the table."""
    pivot = table[row][column]
    line = list(table[row])
    for at, other in enumerate(list(table)):
        if at != row:
            factor = other[column]
            # each division is exact: all entries are minors of the first table
            told = [(entry * pivot - factor * beside) // whole for entry, beside in zip(other, line)]
            told[column] = -factor
            table[at] = told
    table[row][column] = whole
    return pivot
