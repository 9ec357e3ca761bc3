"""What is columns, a row, a table, a set, a demand, key rules. Nothing here raises an error.

The parameter value stands for any value; columns are right columns already, and many is a right number of columns.
"""

MOST_COLUMNS = 4
MOST_VALUES = 3
MOST_ROWS = 8
MOST_UNKNOWN = 6
MOST_SETS = 4
MOST_RULES = 6
MOST_RULED_ROWS = 40
KINDS = ("sure", "possible")


def is_an_integer(value):
    # Python counts True and False among the integers; the document does not.
    return isinstance(value, int) and not isinstance(value, bool)


def is_value(value):
    return is_an_integer(value) and value >= 0


def is_number_below(value, limit):
    return is_value(value) and value < limit


def is_ascending(items):
    """Whether each of the items is less than the next one; so none stands there twice."""
    return all([items[k] < items[k + 1] for k in range(len(items) - 1)])


def is_closed_column(value):
    if not isinstance(value, tuple) or not 1 <= len(value) <= MOST_VALUES:
        return False
    return all([is_value(entry) for entry in value]) and is_ascending(value)


def fits_columns(value):
    if not isinstance(value, tuple) or not 1 <= len(value) <= MOST_COLUMNS:
        return False
    return all([column is None or is_closed_column(column) for column in value])


def fits_known_entry(column, value):
    """Whether the value is one of the column, which is given by its tuple of values or None."""
    # Without the first test, True would be found among the values 0 and 1.
    return is_value(value) and (column is None or value in column)


def fits_row(columns, value):
    if not isinstance(value, tuple) or len(value) != len(columns):
        return False
    return all([entry is None or fits_known_entry(column, entry) for column, entry in zip(columns, value)])


def fits_table(columns, value):
    if not isinstance(value, tuple) or len(value) > MOST_ROWS:
        return False
    if not all([fits_row(columns, row) for row in value]):
        return False
    return len(unknown_places(value)) <= MOST_UNKNOWN


def unknown_places(table):
    """The ascending list of the tuples (row, column) of the unknown entries."""
    return [(i, k) for i, row in enumerate(table) for k, entry in enumerate(row) if entry is None]


def fits_set(columns, value):
    return fits_set_of(len(columns), value)


def fits_set_of(many, value):
    return are_numbers_below(value, many)


def are_numbers_below(value, limit):
    """Whether the value is an ascending tuple of different numbers below the limit."""
    if not isinstance(value, tuple):
        return False
    return all([is_number_below(k, limit) for k in value]) and is_ascending(value)


def fits_demand(columns, value):
    return fits_sets_of(len(columns), value, MOST_SETS)


def fits_sets_of(many, value, most):
    """Whether the value is a tuple of so many sets at most."""
    if not isinstance(value, tuple) or len(value) > most:
        return False
    return all([fits_set_of(many, some) for some in value])


def fits_many(value):
    return is_number_below(value, MOST_COLUMNS + 1) and value > 0


def fits_rules(many, value):
    if not isinstance(value, tuple) or len(value) != 3:
        return False
    known, sure, possible = value
    if not fits_set_of(many, known):
        return False
    return fits_sets_of(many, sure, MOST_RULES) and fits_sets_of(many, possible, MOST_RULES)


def fits_ruled_table(many, value):
    """Whether the value is a table as in the stages 7 to 9: of open columns, with more rows and unknown entries."""
    if not isinstance(value, tuple) or len(value) > MOST_RULED_ROWS:
        return False
    return all([fits_row((None,) * many, row) for row in value])


def fits_kind(value):
    return value in KINDS


def fits_rows(table, value):
    return are_numbers_below(value, len(table))


def fits_worths(table, value):
    return isinstance(value, tuple) and len(value) == len(table) and all([is_value(worth) for worth in value])


def fits_held(table, value):
    return isinstance(value, tuple) and all([is_known_place(table, place) for place in value]) and is_ascending(value)


def is_known_place(table, value):
    """Whether any value is a tuple (row, column), the place of a known entry."""
    if not isinstance(value, tuple) or len(value) != 2:
        return False
    i, k = value
    return is_number_below(i, len(table)) and is_number_below(k, len(table[i])) and table[i][k] is not None
