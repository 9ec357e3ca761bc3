"""Stage 6: what unknown entries can be."""

from surekeys.errors import InvalidEntry
from surekeys.fillings import with_entry
from surekeys.needs import need_column_number, need_row_number, need_table_and_demand
from surekeys.several import can_be_kept, world_or_tree
from surekeys.shapes import unknown_places


def barred(columns, table, demand, i, column):
    """The ascending list of the values of the column, or known in other rows, that are barred from the entry."""
    need_table_and_demand(columns, table, demand)
    need_row_number(table, i)
    need_column_number(columns, column)
    return barred_values(columns, table, demand, i, column)


def settled(columns, table, demand):
    """The ascending list of the tuples (row, column, value) of the settled entries with their values."""
    need_table_and_demand(columns, table, demand)
    return settled_entries(columns, table, demand)


def barred_values(columns, table, demand, i, column):
    if table[i][column] is not None:
        raise InvalidEntry("the entry is known")
    values = values_to_judge(columns, table, column)
    return [value for value in values if not can_have(columns, table, demand, (i, column), value)]


def values_to_judge(columns, table, column):
    """The values of a closed column, or the known ones of an open column, ascending."""
    if columns[column] is not None:
        return columns[column]
    return sorted({row[column] for row in table if row[column] is not None})


def can_have(columns, table, demand, place, value):
    """Whether some world that keeps the demand has the value at the place of this unknown entry."""
    i, k = place
    return can_be_kept(columns, with_entry(table, i, k, value), demand)


def settled_entries(columns, table, demand):
    world, _ = world_or_tree(columns, table, demand)
    if world is None:
        return []
    # An entry of an open column is never settled: a new value is never worse, and there are many of them.
    places = [(i, k) for i, k in unknown_places(table) if columns[k] is not None]
    return [(i, k, world[i][k]) for i, k in places if has_no_other(columns, table, demand, (i, k), world[i][k])]


def has_no_other(columns, table, demand, place, value):
    """Whether no world that keeps the demand has another value than this one at a place of a closed column."""
    _, k = place
    return not any([can_have(columns, table, demand, place, other) for other in columns[k] if other != value])
