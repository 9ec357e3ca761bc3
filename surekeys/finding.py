"""Stage 10: finding the least keys of a table."""

from surekeys.crowds import is_possible_key
from surekeys.needs import need_table
from surekeys.pairs import differences_of
from surekeys.rules import is_sure_by
from surekeys.sets import all_sets, least_of


def differences(columns, table):
    """The ascending list of the differences of all two rows, each once."""
    need_table(columns, table)
    return differences_of(table)


def least_sure(columns, table):
    """The ascending list of the least sure keys of the table."""
    need_table(columns, table)
    apart = differences_of(table)
    return least_of([some for some in all_sets(len(columns)) if is_sure_by(apart, some)])


def least_possible(columns, table):
    """The ascending list of the least possible keys of the table."""
    need_table(columns, table)
    return least_of([some for some in all_sets(len(columns)) if is_possible_key(columns, table, some)])
