"""Stage 2: worlds and their keys."""

from surekeys.errors import InvalidWorld
from surekeys.needs import need_table, need_table_and_set
from surekeys.shapes import fits_table, unknown_places


def is_world(columns, table, value):
    """True if the value is a world of the table, otherwise False."""
    need_table(columns, table)
    return fits_world(columns, table, value)


def is_key(columns, table, some):
    """True if the set is a key of the table, which is a world."""
    need_table_and_set(columns, table, some)
    if unknown_places(table):
        raise InvalidWorld("the table has unknown entries")
    return is_key_of_world(table, some)


def world_count(columns, table):
    """The number of the worlds of the table, or None if there are endlessly many."""
    need_table(columns, table)
    return None if has_open_unknown(columns, table) else number_of_worlds(columns, table)


def has_open_unknown(columns, table):
    """Whether an entry of an open column is unknown."""
    return any([columns[k] is None for _, k in unknown_places(table)])


def number_of_worlds(columns, table):
    """The number of the worlds of a table without unknown entries in open columns."""
    count = 1
    for _, k in unknown_places(table):
        count = count * len(columns[k])
    return count


def fits_world(columns, table, value):
    """Whether any value is a world of a table that is right already."""
    if not fits_table(columns, value) or len(value) != len(table):
        return False
    return not unknown_places(value) and all([keeps_known(row, filled) for row, filled in zip(table, value)])


def keeps_known(row, filled):
    return all([entry is None or entry == other for entry, other in zip(row, filled)])


def is_key_of_world(world, some):
    parts = [part(row, some) for row in world]
    return len(set(parts)) == len(parts)


def keeps_demand(world, demand):
    return all([is_key_of_world(world, some) for some in demand])


def part(row, some):
    """The tuple of the entries of the row in the columns of the set."""
    return tuple([row[k] for k in some])
