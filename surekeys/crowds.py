"""Stage 4: possible keys and crowds.

A set is a possible key if each row can be given a part of its own. A row with an unknown entry in an open column of
the set always can, by a new value; the others are given theirs one after the other, and where a row finds none, it
and the rows that hold all the parts that it could be given are a crowd.
"""

from surekeys.fillings import filled, new_value, with_entry
from surekeys.needs import need_table_and_set
from surekeys.shapes import fits_rows


def is_possible(columns, table, some):
    """True if the set is a possible key, otherwise False."""
    need_table_and_set(columns, table, some)
    return is_possible_key(columns, table, some)


def key_world(columns, table, some):
    """A world in which the set is a key, or None."""
    need_table_and_set(columns, table, some)
    return world_of_key(columns, table, some)


def crowd(columns, table, some):
    """A crowd for the set, or None."""
    need_table_and_set(columns, table, some)
    return crowd_of(columns, table, some)


def is_crowd(columns, table, some, value):
    """True if the value is a crowd for the set, otherwise False."""
    need_table_and_set(columns, table, some)
    return fits_crowd(columns, table, some, value)


def is_possible_key(columns, table, some):
    return crowd_of(columns, table, some) is None


def crowd_of(columns, table, some):
    """A crowd for the set, or None."""
    _, found = own_parts_or_crowd(columns, table, some)
    return found


def world_of_key(columns, table, some):
    """A world in which the set is a key, or None."""
    parts, found = own_parts_or_crowd(columns, table, some)
    return None if found is not None else world_of_parts(columns, table, some, parts)


def parts_of_row(columns, row, some):
    """The list of all parts that the row can have in the set, or None if they are endlessly many."""
    parts = [()]
    for k in some:
        if row[k] is None and columns[k] is None:
            return None
        entries = columns[k] if row[k] is None else (row[k],)
        parts = [begun + (entry,) for begun in parts for entry in entries]
    return parts


def own_parts_or_crowd(columns, table, some):
    """A tuple (parts, None), where parts gives each row with finitely many parts one of its own, or (None, crowd)."""
    offers = [parts_of_row(columns, row, some) for row in table]
    owners = {}
    for i, offer in enumerate(offers):
        tried = {}
        if offer is not None and not give_part(offers, owners, tried, i):
            return None, tuple(sorted([i] + [owners[key] for key in tried]))
    return {owners[key]: key for key in owners}, None


def give_part(offers, owners, tried, i):
    """Whether row i can be given a part, too, where each owner may be given another one of those not yet tried."""
    for key in offers[i]:
        if key not in tried:
            tried[key] = True
            if key not in owners or give_part(offers, owners, tried, owners[key]):
                owners[key] = i
                return True
    return False


def world_of_parts(columns, table, some, parts):
    """A world in which these rows have these parts in the set, and each other row a part of its own."""
    for i in parts:
        for k, entry in zip(some, parts[i]):
            table = with_entry(table, i, k, entry)
    for i in range(len(table)):
        if i not in parts:
            k = first_open_unknown(columns, table[i], some)
            table = with_entry(table, i, k, new_value(table, k))
    return filled(columns, table)


def first_open_unknown(columns, row, some):
    return [k for k in some if row[k] is None and columns[k] is None][0]


def fits_crowd(columns, table, some, value):
    """Whether any value is a crowd for the set."""
    return are_several_rows(table, value) and shortfall(columns, table, some, value) > 0


def are_several_rows(table, value):
    """Whether any value is an ascending tuple of at least two different rows."""
    return fits_rows(table, value) and len(value) >= 2


def shortfall(columns, table, some, rows):
    """The number of the rows less that of the different parts that they can have; 0 for endlessly many parts."""
    offers = [parts_of_row(columns, table[i], some) for i in rows]
    if None in offers:
        return 0
    return len(rows) - len({key for offer in offers for key in offer})
