"""Tables with an unknown entry filled, and worlds with all of them filled."""


def with_entry(table, i, k, entry):
    """The table with this entry in row i and column k."""
    row = table[i]
    return table[:i] + (row[:k] + (entry,) + row[k + 1:],) + table[i + 1:]


def new_value(table, k):
    """The least value that is greater than all values that are known in the column; 0 if none is."""
    return max([row[k] + 1 for row in table if row[k] is not None], default=0)


def filled(columns, table):
    """A world of the table, in which the rest of the unknown entries of each column have one value."""
    return tuple([filled_row(columns, row) for row in table])


def filled_row(columns, row):
    return tuple([first_value(column) if entry is None else entry for column, entry in zip(columns, row)])


def first_value(column):
    return 0 if column is None else column[0]
