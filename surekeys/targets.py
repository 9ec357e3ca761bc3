"""Targets of a set: which of them the rows reach, what they pay for them, and prices.

A row that reaches endlessly many targets has an entry in an open column of the set that is unknown or not held. With a
new value there it has a target of its own, for which it pays nothing if the entry was unknown, otherwise 1; so besides
this one only those targets count for which it pays nothing, and they are finitely many or none of them is needed.
"""

from surekeys.crowds import parts_of_row
from surekeys.fillings import filled_row, new_value


def loosened(table, held):
    """The table with all entries unknown that are not held: the parts that its rows can have are what they reach."""
    return tuple([loosened_row(table, held, i) for i in range(len(table))])


def loosened_row(table, held, i):
    return tuple([entry if (i, k) in held else None for k, entry in enumerate(table[i])])


def payment(row, some, target):
    """The number of the known entries of the row in the columns of the set that differ from the target."""
    return len([k for k, value in zip(some, target) if row[k] is not None and row[k] != value])


def new_columns(columns, table, held, some, i):
    """The open columns of the set in which row i can have a new value, those of its unknown entries first."""
    free = [k for k in some if columns[k] is None and (i, k) not in held]
    return [k for k in free if table[i][k] is None] + [k for k in free if table[i][k] is not None]


def new_payment(columns, table, held, some, i):
    """The least that row i pays for a target with a new value, or None if it reaches none."""
    found = new_columns(columns, table, held, some, i)
    if not found:
        return None
    return 0 if table[i][found[0]] is None else 1


def new_target(columns, table, held, some, i):
    """A target with a new value that is given to no other row, and for which row i pays the least."""
    column = new_columns(columns, table, held, some, i)[0]
    row = filled_row(columns, table[i])
    return tuple([new_value(table, k) + i if k == column else row[k] for k in some])


def old_payments(columns, table, held, some, i):
    """A dict with what row i pays for each target that it reaches, or, if they are endlessly many, where it is 0."""
    row = table[i]
    reached = parts_of_row(columns, loosened_row(table, held, i), some)
    if reached is None:
        reached = parts_of_row(columns, row, some)
    # Where even the parts of the row are endlessly many, a new one is as good as any of them.
    return {} if reached is None else {target: payment(row, some, target) for target in reached}


def payments(columns, table, held, some):
    """A list with a dict for each row: what it pays for each target that it might be given."""
    return [row_payments(columns, table, held, some, i) for i in range(len(table))]


def row_payments(columns, table, held, some, i):
    found = old_payments(columns, table, held, some, i)
    least = new_payment(columns, table, held, some, i)
    if least is not None:
        found[new_target(columns, table, held, some, i)] = least
    return found
