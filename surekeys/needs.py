"""What a function asks of its arguments, any values, before all else: each error by its argument.

Each check but the first trusts in the arguments that stand before its own.
"""

from surekeys.errors import InvalidColumns, InvalidNumber, InvalidSet, InvalidTable
from surekeys.shapes import fits_columns, fits_set, fits_table, is_number_below


def need_columns(columns):
    if not fits_columns(columns):
        raise InvalidColumns("the columns are not a tuple of 1 to 4 columns")


def need_table(columns, table):
    """Right columns and a table of them, in this order."""
    need_columns(columns)
    if not fits_table(columns, table):
        raise InvalidTable("the table is not one of these columns")


def need_row_number(table, i):
    if not is_number_below(i, len(table)):
        raise InvalidNumber("this is not the number of a row of the table")


def need_set(columns, some):
    if not fits_set(columns, some):
        raise InvalidSet("this is not an ascending tuple of different columns")


def need_table_and_set(columns, table, some):
    """Right columns, a table and a set of them, in this order."""
    need_table(columns, table)
    need_set(columns, some)
