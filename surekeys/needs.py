"""What a function asks of its arguments, any values, before all else: each error by its argument.

Each check but the first trusts in the arguments that stand before its own.
"""

from surekeys.errors import InvalidColumns, InvalidDemand, InvalidKind, InvalidNumber, InvalidRules, InvalidSet
from surekeys.errors import InvalidTable
from surekeys.faults import InvalidHeld, InvalidRows, InvalidWorths
from surekeys.shapes import fits_columns, fits_demand, fits_held, fits_kind, fits_many, fits_rows, fits_rules
from surekeys.shapes import fits_set_of, fits_table, fits_worths, is_number_below


def need_columns(columns):
    if not fits_columns(columns):
        raise InvalidColumns("the columns are not a tuple of 1 to 4 columns")


def need_table(columns, table):
    """Right columns and a table of them, in this order."""
    need_columns(columns)
    if not fits_table(columns, table):
        raise InvalidTable("the table is not one of these columns")


def need_row_number(table, i):
    if not is_number_below(i, len(table)):
        raise InvalidNumber("this is not the number of a row of the table")


def need_column_number(columns, column):
    if not is_number_below(column, len(columns)):
        raise InvalidNumber("this is not the number of a column")


def need_set(columns, some):
    need_set_of(len(columns), some)


def need_set_of(many, some):
    if not fits_set_of(many, some):
        raise InvalidSet("this is not an ascending tuple of different columns")


def need_table_and_set(columns, table, some):
    """Right columns, a table and a set of them, in this order."""
    need_table(columns, table)
    need_set(columns, some)


def need_table_and_demand(columns, table, demand):
    """Right columns, a table and a demand of them, in this order."""
    need_table(columns, table)
    if not fits_demand(columns, demand):
        raise InvalidDemand("this is not a tuple of at most 4 sets")


def need_rows(table, rows):
    if not fits_rows(table, rows):
        raise InvalidRows("this is not an ascending tuple of different rows of the table")


def need_worths(table, worths):
    if not fits_worths(table, worths):
        raise InvalidWorths("this is not a tuple with a value for each row of the table")


def need_held(columns, table, held):
    """Right columns, a table of them and held entries of it, in this order."""
    need_table(columns, table)
    if not fits_held(table, held):
        raise InvalidHeld("this is not an ascending tuple of different places of known entries")


def need_held_and_set(columns, table, held, some):
    """Right columns, a table of them, held entries of it and a set, in this order."""
    need_held(columns, table, held)
    need_set(columns, some)


def need_many(many):
    if not fits_many(many):
        raise InvalidNumber("this is not a number of columns from 1 to 4")


def need_rules(many, rules):
    """A right number of columns and key rules for so many, in this order."""
    need_many(many)
    if not fits_rules(many, rules):
        raise InvalidRules("these are not key rules for so many columns")


def need_rules_and_kind(many, rules, kind):
    """A right number of columns, key rules for so many and a kind, in this order."""
    need_rules(many, rules)
    if not fits_kind(kind):
        raise InvalidKind("a kind is one of the words sure and possible")


def need_rules_kind_and_set(many, rules, kind, some):
    """A right number of columns, key rules for so many, a kind and a set, in this order."""
    need_rules_and_kind(many, rules, kind)
    need_set_of(many, some)
