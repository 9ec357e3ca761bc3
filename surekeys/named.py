"""What a desk and a mender have in common: rows with names that go in and out, entries that are filled and forgotten.

Each function returns what there will be, or raises the error that the document names; it changes nothing.
"""

from surekeys.errors import Full, InvalidEntry, InvalidMark, InvalidNumber, InvalidRow, InvalidValue
from surekeys.fillings import with_entry
from surekeys.needs import need_column_number
from surekeys.shapes import MOST_ROWS, MOST_UNKNOWN
from surekeys.shapes import fits_known_entry, fits_row, is_an_integer, is_number_below, unknown_places

MOST_MARKS = 6


def number_of_row(names, name):
    """The number of the row with this name, any value."""
    # Without the first test, True would be found as the name 1.
    if not is_an_integer(name) or name not in names:
        raise InvalidNumber("this is not the name of a row that is there")
    return names.index(name)


def need_row(columns, row):
    if not fits_row(columns, row):
        raise InvalidRow("this is not a row of the columns")


def with_row(rows, row):
    """The rows with this one at the end."""
    if len(rows) >= MOST_ROWS:
        raise Full(MOST_ROWS)
    grown = rows + (row,)
    if len(unknown_places(grown)) > MOST_UNKNOWN:
        raise Full(MOST_UNKNOWN)
    return grown


def without_item(items, i):
    return items[:i] + items[i + 1:]


def with_entry_filled(columns, rows, names, place, value):
    """The rows with this value at the place of an unknown entry, a tuple (name, column)."""
    i, column = number_of_place(columns, names, place)
    if rows[i][column] is not None:
        raise InvalidEntry("the entry is known")
    if not fits_known_entry(columns[column], value):
        raise InvalidValue("this is not a value of the column")
    return with_entry(rows, i, column, value)


def with_entry_forgotten(columns, rows, names, place):
    """The rows with an unknown entry at the place of a known one, a tuple (name, column)."""
    i, column = number_of_place(columns, names, place)
    if rows[i][column] is None:
        raise InvalidEntry("the entry is unknown")
    if len(unknown_places(rows)) >= MOST_UNKNOWN:
        raise Full(MOST_UNKNOWN)
    return with_entry(rows, i, column, None)


def number_of_place(columns, names, place):
    """The tuple (row, column) of the place, a tuple (name, column) of any values."""
    name, column = place
    i = number_of_row(names, name)
    need_column_number(columns, column)
    return i, column


def need_room_for_a_mark(marks):
    if len(marks) >= MOST_MARKS:
        raise Full(MOST_MARKS)


def need_mark(marks, number):
    if not is_number_below(number, len(marks)):
        raise InvalidMark(number)
