"""Stage 17: a mender, which keeps the rows of the most worth over calls and changes few of them.

After each call the rows are chosen again by their worths, of rows of one worth those first that were kept before. In
this order the choice before the call would have come to the rows that were kept, too; where just one row has come, gone
or changed since, the choice differs by no more than the document allows.
"""

from surekeys.crowds import world_of_key
from surekeys.errors import InvalidValue
from surekeys.kept import rows_alone
from surekeys.named import need_mark, need_room_for_a_mark, need_row, number_of_row, with_entry_filled
from surekeys.named import with_entry_forgotten, with_row, without_item
from surekeys.needs import need_columns, need_set
from surekeys.shapes import is_value
from surekeys.worthy import block_of, worthiest_rows


class Mender:
    """Columns, a set of them, a table with names and worths for its rows, and the names of the rows that are kept."""

    def __init__(self, columns, some):
        need_columns(columns)
        need_set(columns, some)
        self._columns = columns
        self._some = some
        self._rows = ()
        self._names = ()
        self._worths = ()
        self._kept = ()
        self._next_name = 0
        self._marks = []

    @property
    def table(self):
        """The tuple of the rows."""
        return self._rows

    @property
    def row_names(self):
        """The tuple of the names of the rows."""
        return self._names

    @property
    def worths(self):
        """The tuple of the worths of the rows."""
        return self._worths

    @property
    def kept(self):
        """The ascending tuple of the names of the kept rows."""
        return self._kept

    def put(self, row, worth):
        """Adds a row at the end, and returns its name."""
        need_row(self._columns, row)
        if not is_value(worth):
            raise InvalidValue("a worth is an integer from 0 on")
        self._rows = with_row(self._rows, row)
        name = self._next_name
        self._next_name = name + 1
        self._names = self._names + (name,)
        self._worths = self._worths + (worth,)
        self._choose()
        return name

    def take(self, name):
        """Removes the row with this name."""
        i = number_of_row(self._names, name)
        self._rows = without_item(self._rows, i)
        self._names = without_item(self._names, i)
        self._worths = without_item(self._worths, i)
        self._choose()

    def fill(self, name, column, value):
        """Makes an unknown entry known."""
        self._rows = with_entry_filled(self._columns, self._rows, self._names, (name, column), value)
        self._choose()

    def forget(self, name, column):
        """Makes a known entry unknown."""
        self._rows = with_entry_forgotten(self._columns, self._rows, self._names, (name, column))
        self._choose()

    def world(self):
        """A world of the kept rows alone in which the set is a key."""
        return world_of_key(self._columns, rows_alone(self._rows, self._kept_numbers()), self._some)

    def block(self, name):
        """A block of the row, an ascending tuple of names, or None if the row is kept."""
        i = number_of_row(self._names, name)
        if name in self._kept:
            return None
        found = block_of(self._columns, self._rows, self._some, self._worths, self._kept_numbers(), i)
        return tuple([self._names[j] for j in found])

    def mark(self):
        """Makes a new mark, and returns its number."""
        need_room_for_a_mark(self._marks)
        self._marks.append((self._rows, self._names, self._worths, self._kept))
        return len(self._marks) - 1

    def back(self, number):
        """Restores everything but the next name to what it was when the mark was made."""
        need_mark(self._marks, number)
        rows, names, worths, kept = self._marks[number]
        self._rows = rows
        self._names = names
        self._worths = worths
        self._kept = kept
        self._marks = self._marks[:number + 1]

    def _kept_numbers(self):
        """The numbers of the kept rows; names and numbers ascend alike."""
        return tuple([i for i, name in enumerate(self._names) if name in self._kept])

    def _choose(self):
        """Chooses the rows to be kept, behind a change."""
        rows = worthiest_rows(self._columns, self._rows, self._some, self._worths, self._kept_numbers())
        self._kept = tuple([self._names[i] for i in rows])
