"""What the models of a desk and of a mender have in common: rows with names, written as plainly as can be.

A method of a model returns ('returned', result), ('full', limit), ('mark', number), or the error that is to be raised.
"""

from surekeys.errors import (Full, Impossible, InvalidEntry, InvalidMark, InvalidNumber, InvalidRow, InvalidValue,
                             KeyRuleError)
from tests.samples import unknown_count


class RowsModel:
    """Rows with names: named is a list of tuples that begin with the name and the row."""

    def __init__(self, columns):
        self.columns, self.named, self.marks, self.next = columns, [], [], 0

    def rows(self):
        return tuple(item[1] for item in self.named)

    def names(self):
        return [item[0] for item in self.named]

    def is_name(self, name):
        return type(name) is int and name in self.names()

    def is_column(self, column):
        return type(column) is int and 0 <= column < len(self.columns)

    def is_place(self, name, column):
        return self.is_name(name) and self.is_column(column)

    def entry(self, name, column):
        return self.rows()[self.names().index(name)][column]

    def is_value(self, column, value):
        domain = self.columns[column]
        return type(value) is int and value >= 0 and (domain is None or value in domain)

    def is_row(self, row):
        return type(row) is tuple and len(row) == len(self.columns) and all(
            entry is None or self.is_value(k, entry) for k, entry in enumerate(row))

    def with_entry(self, name, column, value):
        return [(item[0], item[1][:column] + (value,) + item[1][column + 1:]) + item[2:] if item[0] == name else item
                for item in self.named]

    def refused_row(self, row, *worth):
        """What stands against a row, with a worth where there are worths, or None."""
        if not self.is_row(row):
            return InvalidRow
        if any(type(value) is not int or value < 0 for value in worth):
            return InvalidValue
        if len(self.named) == 8:
            return 'full', 8
        return ('full', 6) if unknown_count(self.rows() + (row,)) > 6 else None

    def add(self, row, *worth):
        self.named, self.next = self.named + [(self.next, row) + worth], self.next + 1
        return 'returned', self.next - 1

    def take(self, name):
        if not self.is_name(name):
            return InvalidNumber
        self.named = [item for item in self.named if item[0] != name]
        return 'returned', None

    def refused_entry(self, name, column, value):
        """What stands against an unknown entry that is filled, or None."""
        if not self.is_place(name, column):
            return InvalidNumber
        if self.entry(name, column) is not None:
            return InvalidEntry
        return None if self.is_value(column, value) else InvalidValue

    def forget(self, name, column):
        if not self.is_place(name, column):
            return InvalidNumber
        if self.entry(name, column) is None:
            return InvalidEntry
        if unknown_count(self.rows()) == 6:
            return 'full', 6
        self.named = self.with_entry(name, column, None)
        return 'returned', None

    def add_mark(self, *kept):
        if len(self.marks) == 6:
            return 'full', 6
        self.marks = self.marks + [(self.named,) + kept]
        return 'returned', len(self.marks) - 1

    def no_mark(self, number):
        return type(number) is not int or not 0 <= number < len(self.marks)


def outcome(asked, method, arguments):
    """What the call of a desk or a mender returns or raises, in the words of the models."""
    try:
        return 'returned', getattr(asked, method)(*arguments)
    except Full as error:
        return 'full', error.limit
    except Impossible as error:
        return 'impossible', error.tree
    except InvalidMark as error:
        return 'mark', error.number
    except KeyRuleError as error:
        return type(error)
