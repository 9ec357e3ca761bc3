"""Stage 1: columns, rows, tables, sets and demands."""

from surekeys.needs import need_columns
from surekeys.shapes import fits_columns, fits_demand, fits_row, fits_set, fits_table


def is_columns(value):
    """True if the value is columns, otherwise False."""
    return fits_columns(value)


def is_row(columns, value):
    """True if the value is a row of the columns, otherwise False."""
    need_columns(columns)
    return fits_row(columns, value)


def is_table(columns, value):
    """True if the value is a table of the columns, otherwise False."""
    need_columns(columns)
    return fits_table(columns, value)


def is_set(columns, value):
    """True if the value is a set of the columns, otherwise False."""
    need_columns(columns)
    return fits_set(columns, value)


def is_demand(columns, value):
    """True if the value is a demand, otherwise False."""
    need_columns(columns)
    return fits_demand(columns, value)
