"""Values that several tests use."""

from itertools import product


def nested(depth, kind):
    value = kind()
    for _ in range(depth):
        value = kind([value])
    return value


# Values of all the kinds of "any value"; none of them is columns, a row, a table,
# a set, a demand, or a number of a row of a table, wherever WRONG_EVERYWHERE is used.
WRONG_EVERYWHERE = [
    True, False, None, -1, -7, 10 ** 30, -(10 ** 30), '', 'a', '01', 'None', 'sure', [], [()], [None], [0], [0, 1],
    [None, None], [(0, 1)], (True,), (False,), (False, True), (-1,), ('0',), ('',), ([],), ([0, 1],), (0, [1]),
    (0, (1, 'x', [None])), ((((),),),), ('twins', 0, 1, 0), nested(20, tuple), nested(20, list), ((1, 0), [2]),
]


def all_sets(many):
    """Every set of so many columns."""
    return [tuple(k for k in range(many) if bits >> k & 1) for bits in range(2 ** many)]


def all_tables(columns, most_rows, entries):
    """Every table of 0 to so many rows whose entries are taken from those that are given for each column."""
    rows = list(product(*entries))
    return [table for many in range(most_rows + 1) for table in product(rows, repeat=many)]


def some_worlds(columns, table):
    """All worlds, but in open columns only with known values and one new value for each unknown entry.

    Whether rows are equal somewhere in a world depends on which of its entries are equal only,
    so what holds in one of the worlds left out holds in one of these.
    """
    choices = []
    for i, row in enumerate(table):
        for k, entry in enumerate(row):
            choices.append((entry,) if entry is not None else values_of(columns, table, k))
    width = len(columns)
    for flat in product(*choices):
        yield tuple(flat[i * width:(i + 1) * width] for i in range(len(table)))


def values_of(columns, table, k):
    if columns[k] is not None:
        return columns[k]
    known = sorted({row[k] for row in table if row[k] is not None})
    unknown = sum(row[k] is None for row in table)
    new = max(known, default=0) + 1
    return tuple(known) + tuple(range(new, new + unknown))


def equal_rows(world, some):
    """Whether two rows of the world are equal in all columns of the set."""
    return any(all(world[i][k] == world[j][k] for k in some) for j in range(len(world)) for i in range(j))
