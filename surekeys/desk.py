"""Stage 11: a desk, which keeps a table over calls such that some world of it keeps the demand."""

from surekeys.entries import barred_values, settled_entries
from surekeys.errors import Full, Impossible, InvalidEntry, InvalidMark, InvalidNumber, InvalidRow, InvalidValue
from surekeys.fillings import with_entry
from surekeys.needs import need_column_number, need_columns, need_set
from surekeys.several import world_or_tree
from surekeys.shapes import MOST_ROWS, MOST_SETS, MOST_UNKNOWN
from surekeys.shapes import fits_known_entry, fits_row, is_an_integer, is_number_below, unknown_places

MOST_MARKS = 6


class Desk:
    """Columns, a table with names for its rows, and a demand that some world of the table keeps."""

    def __init__(self, columns):
        need_columns(columns)
        self._columns = columns
        self._rows = ()
        self._names = ()
        self._sets = ()
        self._next_name = 0
        # The settled entries that news last saw.
        self._seen = ()
        self._marks = []

    @property
    def table(self):
        """The tuple of the rows."""
        return self._rows

    @property
    def row_names(self):
        """The tuple of the names of the rows."""
        return self._names

    @property
    def demands(self):
        """The tuple of the demanded sets."""
        return self._sets

    def put(self, row):
        """Adds a row at the end, and returns its name."""
        if not fits_row(self._columns, row):
            raise InvalidRow("this is not a row of the columns")
        if len(self._rows) >= MOST_ROWS:
            raise Full(MOST_ROWS)
        rows = self._rows + (row,)
        if len(unknown_places(rows)) > MOST_UNKNOWN:
            raise Full(MOST_UNKNOWN)
        need_world(self._columns, rows, self._sets)
        name = self._next_name
        self._next_name = name + 1
        self._rows = rows
        self._names = self._names + (name,)
        return name

    def take(self, name):
        """Removes the row with this name."""
        i = number_of_row(self._names, name)
        self._rows = self._rows[:i] + self._rows[i + 1:]
        self._names = self._names[:i] + self._names[i + 1:]

    def fill(self, name, column, value):
        """Makes an unknown entry known."""
        i = number_of_row(self._names, name)
        need_column_number(self._columns, column)
        if self._rows[i][column] is not None:
            raise InvalidEntry("the entry is known")
        if not fits_known_entry(self._columns[column], value):
            raise InvalidValue("this is not a value of the column")
        rows = with_entry(self._rows, i, column, value)
        need_world(self._columns, rows, self._sets)
        self._rows = rows

    def forget(self, name, column):
        """Makes a known entry unknown."""
        i = number_of_row(self._names, name)
        need_column_number(self._columns, column)
        if self._rows[i][column] is None:
            raise InvalidEntry("the entry is unknown")
        if len(unknown_places(self._rows)) >= MOST_UNKNOWN:
            raise Full(MOST_UNKNOWN)
        self._rows = with_entry(self._rows, i, column, None)

    def demand(self, some):
        """Adds a set at the end of the demand."""
        need_set(self._columns, some)
        if len(self._sets) >= MOST_SETS:
            raise Full(MOST_SETS)
        sets = self._sets + (some,)
        need_world(self._columns, self._rows, sets)
        self._sets = sets

    def release(self, number):
        """Removes the set with this number from the demand."""
        if not is_number_below(number, len(self._sets)):
            raise InvalidNumber("this is not the number of a set of the demand")
        self._sets = self._sets[:number] + self._sets[number + 1:]

    def world(self):
        """A world that keeps the demand."""
        found, _ = world_or_tree(self._columns, self._rows, self._sets)
        return found

    def barred(self, name, column):
        """The ascending list of the values that are barred from the entry."""
        i = number_of_row(self._names, name)
        need_column_number(self._columns, column)
        return barred_values(self._columns, self._rows, self._sets, i, column)

    def settled(self):
        """The ascending list of the tuples (name, column, value) of the settled entries."""
        return [(self._names[i], k, value) for i, k, value in settled_entries(self._columns, self._rows, self._sets)]

    def news(self):
        """The ascending list of the settled entries that were not settled so when this was last asked."""
        now = self.settled()
        fresh = [entry for entry in now if entry not in self._seen]
        self._seen = tuple(now)
        return fresh

    def mark(self):
        """Makes a new mark, and returns its number."""
        if len(self._marks) >= MOST_MARKS:
            raise Full(MOST_MARKS)
        self._marks.append((self._rows, self._names, self._sets, self._seen))
        return len(self._marks) - 1

    def back(self, number):
        """Restores everything but the next name to what it was when the mark was made."""
        if not is_number_below(number, len(self._marks)):
            raise InvalidMark(number)
        rows, names, sets, seen = self._marks[number]
        self._rows = rows
        self._names = names
        self._sets = sets
        self._seen = seen
        self._marks = self._marks[:number + 1]


def number_of_row(names, name):
    """The number of the row with this name, any value."""
    # Without the first test, True would be found as the name 1.
    if not is_an_integer(name) or name not in names:
        raise InvalidNumber("this is not the name of a row that is there")
    return names.index(name)


def need_world(columns, table, demand):
    """Some world of the table that keeps the demand."""
    world, tree = world_or_tree(columns, table, demand)
    if world is None:
        raise Impossible(tree)
