"""Two rows of a table: where they can meet, where they are alike, where they differ."""


def rows_can_meet(row, other, some):
    return all([row[k] is None or other[k] is None or row[k] == other[k] for k in some])


def rows_are_alike(row, other, some):
    return all([row[k] is not None and row[k] == other[k] for k in some])


def difference(row, other):
    """The set of the columns in which both entries are known and different."""
    return tuple([k for k, entry in enumerate(row) if entry is not None and other[k] is not None and entry != other[k]])


def likeness(row, other):
    """The greatest set in which the two rows are alike."""
    return tuple([k for k, entry in enumerate(row) if entry is not None and entry == other[k]])


def differences_of(table):
    """The ascending list of the differences of all two rows, each once."""
    many = len(table)
    return sorted({difference(table[i], table[j]) for j in range(many) for i in range(j)})


def likenesses_of(table):
    """The ascending list of the greatest sets in which any two rows are alike, each once."""
    many = len(table)
    return sorted({likeness(table[i], table[j]) for j in range(many) for i in range(j)})
