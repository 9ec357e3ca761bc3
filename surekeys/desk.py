"""Stage 11: a desk, which keeps a table over calls such that some world of it keeps the demand."""

from surekeys.entries import barred_values, settled_entries
from surekeys.errors import Full, Impossible, InvalidNumber
from surekeys.named import need_mark, need_room_for_a_mark, need_row, number_of_place, number_of_row, with_entry_filled
from surekeys.named import with_entry_forgotten, with_row, without_item
from surekeys.needs import need_columns, need_set
from surekeys.several import world_or_tree
from surekeys.shapes import MOST_SETS, is_number_below


class Desk:
    """Columns, a table with names for its rows, and a demand that some world of the table keeps."""

    def __init__(self, columns):
        need_columns(columns)
        self._columns = columns
        self._rows = ()
        self._names = ()
        self._sets = ()
        self._next_name = 0
        # The settled entries that news last saw.
        self._seen = ()
        self._marks = []

    @property
    def table(self):
        """The tuple of the rows."""
        return self._rows

    @property
    def row_names(self):
        """The tuple of the names of the rows."""
        return self._names

    @property
    def demands(self):
        """The tuple of the demanded sets."""
        return self._sets

    def put(self, row):
        """Adds a row at the end, and returns its name."""
        need_row(self._columns, row)
        rows = with_row(self._rows, row)
        need_world(self._columns, rows, self._sets)
        name = self._next_name
        self._next_name = name + 1
        self._rows = rows
        self._names = self._names + (name,)
        return name

    def take(self, name):
        """Removes the row with this name."""
        i = number_of_row(self._names, name)
        self._rows = without_item(self._rows, i)
        self._names = without_item(self._names, i)

    def fill(self, name, column, value):
        """Makes an unknown entry known."""
        rows = with_entry_filled(self._columns, self._rows, self._names, (name, column), value)
        need_world(self._columns, rows, self._sets)
        self._rows = rows

    def forget(self, name, column):
        """Makes a known entry unknown."""
        self._rows = with_entry_forgotten(self._columns, self._rows, self._names, (name, column))

    def demand(self, some):
        """Adds a set at the end of the demand."""
        need_set(self._columns, some)
        if len(self._sets) >= MOST_SETS:
            raise Full(MOST_SETS)
        sets = self._sets + (some,)
        need_world(self._columns, self._rows, sets)
        self._sets = sets

    def release(self, number):
        """Removes the set with this number from the demand."""
        if not is_number_below(number, len(self._sets)):
            raise InvalidNumber("this is not the number of a set of the demand")
        self._sets = without_item(self._sets, number)

    def world(self):
        """A world that keeps the demand."""
        found, _ = world_or_tree(self._columns, self._rows, self._sets)
        return found

    def barred(self, name, column):
        """The ascending list of the values that are barred from the entry."""
        i, k = number_of_place(self._columns, self._names, (name, column))
        return barred_values(self._columns, self._rows, self._sets, i, k)

    def settled(self):
        """The ascending list of the tuples (name, column, value) of the settled entries."""
        return [(self._names[i], k, value) for i, k, value in settled_entries(self._columns, self._rows, self._sets)]

    def news(self):
        """The ascending list of the settled entries that were not settled so when this was last asked."""
        now = self.settled()
        fresh = [entry for entry in now if entry not in self._seen]
        self._seen = tuple(now)
        return fresh

    def mark(self):
        """Makes a new mark, and returns its number."""
        need_room_for_a_mark(self._marks)
        self._marks.append((self._rows, self._names, self._sets, self._seen))
        return len(self._marks) - 1

    def back(self, number):
        """Restores everything but the next name to what it was when the mark was made."""
        need_mark(self._marks, number)
        rows, names, sets, seen = self._marks[number]
        self._rows = rows
        self._names = names
        self._sets = sets
        self._seen = seen
        self._marks = self._marks[:number + 1]


def need_world(columns, table, demand):
    """Some world of the table that keeps the demand."""
    world, tree = world_or_tree(columns, table, demand)
    if world is None:
        raise Impossible(tree)
