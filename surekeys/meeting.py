"""Stage 3: meeting rows and sure keys."""

from surekeys.fillings import filled
from surekeys.needs import need_row_number, need_set, need_table, need_table_and_set
from surekeys.pairs import rows_can_meet


def can_meet(columns, table, i, j, some):
    """True if rows i and j can meet in the set, otherwise False."""
    need_table(columns, table)
    need_row_number(table, i)
    need_row_number(table, j)
    need_set(columns, some)
    return rows_can_meet(table[i], table[j], some)


def meetings(columns, table, some):
    """The ascending list of the tuples (i, j), i less than j, of rows that can meet in the set."""
    need_table_and_set(columns, table, some)
    return meeting_rows(table, some)


def is_sure(columns, table, some):
    """True if the set is a sure key, otherwise False."""
    need_table_and_set(columns, table, some)
    return not meeting_rows(table, some)


def meeting_world(columns, table, some):
    """A world in which the set is no key, or None."""
    need_table_and_set(columns, table, some)
    found = meeting_rows(table, some)
    if not found:
        return None
    return world_of_meeting(columns, table, found[0])


def meeting_rows(table, some):
    many = len(table)
    return [(i, j) for i in range(many) for j in range(i + 1, many) if rows_can_meet(table[i], table[j], some)]


def world_of_meeting(columns, table, pair):
    """A world in which the two rows are equal wherever they can be."""
    i, j = pair
    rows = list(table)
    rows[i] = with_entries_of(table[i], table[j])
    rows[j] = with_entries_of(table[j], table[i])
    # Entries that neither row knows get the same value in both, since this value depends on the column alone.
    return filled(columns, tuple(rows))


def with_entries_of(row, other):
    """The row, with the other one's entries where its own ones are unknown."""
    return tuple([there if entry is None else entry for entry, there in zip(row, other)])
