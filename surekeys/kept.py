"""Stage 13: rows that can be kept such that a set is a possible key of them.

Rows are keepable if each of them can be given a part of its own, and so what can be given parts one after the other
comes to as many rows, whichever come first: keepable rows can always be grown to greatest ones.
"""

from surekeys.crowds import is_possible_key, world_of_key
from surekeys.faults import InvalidRows
from surekeys.needs import need_rows, need_table_and_set


def is_keepable(columns, table, some, rows):
    """True if the rows are keepable, otherwise False."""
    need_table_and_set(columns, table, some)
    need_rows(table, rows)
    return are_keepable(columns, table, some, rows)


def greatest_kept(columns, table, some):
    """Greatest keepable rows."""
    need_table_and_set(columns, table, some)
    return kept_in_order(columns, table, some, (), rows_left_out(table, ()))


def kept_world(columns, table, some, rows):
    """A world of the rows alone in which the set is a key, or None."""
    need_table_and_set(columns, table, some)
    need_rows(table, rows)
    return world_of_key(columns, rows_alone(table, rows), some)


def grown(columns, table, some, rows):
    """Greatest keepable rows among which the rows are."""
    need_table_and_set(columns, table, some)
    need_rows(table, rows)
    need_keepable(columns, table, some, rows)
    return kept_in_order(columns, table, some, rows, rows_left_out(table, rows))


def exchange(columns, table, some, few, many):
    """A row that is among many and can be put to few."""
    need_table_and_set(columns, table, some)
    need_rows(table, few)
    need_rows(table, many)
    need_keepable(columns, table, some, few)
    need_keepable(columns, table, some, many)
    if len(few) >= len(many):
        raise InvalidRows("the first rows are not fewer than the second ones")
    return [i for i in many if can_be_put(columns, table, some, few, i)][0]


def spared(columns, table, some):
    """The spared rows, as rows of the table."""
    need_table_and_set(columns, table, some)
    most = rank(columns, table, some, rows_left_out(table, ()))
    return tuple([i for i in range(len(table)) if rank(columns, table, some, rows_left_out(table, (i,))) == most])


def need_keepable(columns, table, some, rows):
    if not are_keepable(columns, table, some, rows):
        raise InvalidRows("the rows are not keepable")


def are_keepable(columns, table, some, rows):
    return is_possible_key(columns, rows_alone(table, rows), some)


def rows_alone(table, rows):
    """The table that has just these rows, in this order."""
    return tuple([table[i] for i in rows])


def rows_left_out(table, rows):
    """The rows of the table that are not among these."""
    return tuple([i for i in range(len(table)) if i not in rows])


def can_be_put(columns, table, some, rows, i):
    """Whether row i is not among the keepable rows, and these are keepable with it, too."""
    return i not in rows and are_keepable(columns, table, some, rows + (i,))


def kept_in_order(columns, table, some, rows, order):
    """These keepable rows and, one after the other in this order, each further one that can be put to them."""
    for i in order:
        if can_be_put(columns, table, some, rows, i):
            rows = rows + (i,)
    return tuple(sorted(rows))


def rank(columns, table, some, rows):
    """The number of the most of these rows that are keepable."""
    return len(kept_in_order(columns, table, some, (), rows))
