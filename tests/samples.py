"""Values that several tests use."""

import random
from itertools import combinations, product


def nested(depth, kind):
    value = kind()
    for _ in range(depth):
        value = kind([value])
    return value


# Values of all the kinds of "any value"; none of them is columns, a row, a table,
# a set, a demand, or a number of a row of a table, wherever WRONG_EVERYWHERE is used.
WRONG_EVERYWHERE = [
    True, False, None, -1, -7, 10 ** 30, -(10 ** 30), '', 'a', '01', 'None', 'sure', [], [()], [None], [0], [0, 1],
    [None, None], [(0, 1)], (True,), (False,), (False, True), (-1,), ('0',), ('',), ([],), ([0, 1],), (0, [1]),
    (0, (1, 'x', [None])), ((((),),),), ('twins', 0, 1, 0), nested(20, tuple), nested(20, list), ((1, 0), [2]),
]


def all_sets(many):
    """Every set of so many columns."""
    return [tuple(k for k in range(many) if bits >> k & 1) for bits in range(2 ** many)]


def all_tables(columns, most_rows, entries):
    """Every table of 0 to so many rows whose entries are taken from those that are given for each column."""
    rows = list(product(*entries))
    return [table for many in range(most_rows + 1) for table in product(rows, repeat=many)]


def some_worlds(columns, table, more=0):
    """All worlds, but in open columns only with known values and one new value, or more, for each unknown entry.

    Whether rows are equal somewhere in a world depends on which of its entries are equal only,
    so what holds in one of the worlds left out holds in one of these.
    """
    choices = []
    for row in table:
        for k, entry in enumerate(row):
            choices.append((entry,) if entry is not None else values_of(columns, table, k, more))
    width = len(columns)
    for flat in product(*choices):
        yield tuple(flat[i * width:(i + 1) * width] for i in range(len(table)))


def values_of(columns, table, k, more):
    if columns[k] is not None:
        return columns[k]
    known = sorted({row[k] for row in table if row[k] is not None})
    unknown = sum(row[k] is None for row in table)
    new = max(known, default=0) + 1
    return tuple(known) + tuple(range(new, new + unknown + more))


def equal_rows(world, some):
    """Whether two rows of the world are equal in all columns of the set."""
    return any(all(world[i][k] == world[j][k] for k in some) for j in range(len(world)) for i in range(j))


def keeps(world, demand):
    return not any(equal_rows(world, some) for some in demand)


def unknown_count(table):
    return sum(entry is None for row in table for entry in row)


def drawn_columns(draw, many):
    return tuple(draw.choice([None, None, (0, 1), (2, 5, 9), (4,), (0, 3, 7)]) for _ in range(many))


def drawn_table(draw, columns, rows, unknown):
    """A table with few different values, so that rows are often equal somewhere."""
    table = [[draw.choice((0, 6, 10 ** 29) if column is None else column) for column in columns] for _ in range(rows)]
    places = [(i, k) for i in range(rows) for k in range(len(columns))]
    for i, k in draw.sample(places, min(unknown, len(places))):
        table[i][k] = None
    return tuple(tuple(row) for row in table)


def drawn_set(draw, many):
    return tuple(k for k in range(many) if draw.random() < 0.5)


def drawn_hard_case(draw, rows):
    """Columns, a table and a demand: no two rows are alike at once in a demanded set, but they soon can be."""
    columns = tuple(draw.choice([None, (0, 1), (0, 1), (0, 3, 7), (0, 3, 7)]) for _ in range(draw.randint(2, 4)))
    demand = tuple(drawn_set(draw, len(columns)) or (0,) for _ in range(draw.randint(1, 4)))
    table = ()
    for _ in range(40):
        row = tuple(None if draw.random() < 0.4 else draw.choice(column or (0, 6)) for column in columns)
        twins = any(all(row[k] is not None and row[k] == other[k] for k in some) for other in table for some in demand)
        if not twins and len(table) < rows and unknown_count(table + (row,)) <= 6:
            table = table + (row,)
    return columns, table, demand


def changed_somewhere(value, others):
    """The value with one thing changed at any place and depth: replaced, left out, doubled, exchanged, made a list."""
    for other in others:
        yield other
    if type(value) is int and value in (0, 1):
        yield bool(value)
    if type(value) is tuple:
        yield list(value)
        yield value + value[-1:]
        yield value[1:]
        for k, part in enumerate(value):
            yield value[:k] + value[k + 1:]
            yield value[:k] + (part,) + value[k:]
            yield value[:k] + value[k + 1:k + 2] + value[k:k + 1] + value[k + 2:]
            for changed in changed_somewhere(part, others):
                yield value[:k] + (changed,) + value[k + 1:]


def drawn_rules(draw, many):
    """Key rules with sets of about one size, so that several of them are least keys."""
    size = draw.randint(0, many)
    families = []
    for largest in (size, draw.randint(0, size)):
        count = draw.choice((0, 1, 2, 3, 6, 6))
        sizes = [draw.choice((largest, largest, largest, many)) for _ in range(count)]
        families.append(tuple(tuple(sorted(draw.sample(range(many), some))) for some in sizes))
    known = tuple(k for k in range(many) if draw.random() < 0.2)
    return known, families[0], families[1]


def each_drawn_rules(times, seed):
    """Tuples (many, rules), as many for each number of columns."""
    draw = random.Random(seed)
    for number in range(times):
        many = number % 4 + 1
        yield many, drawn_rules(draw, many)


def each_harsh_rules(times, seed):
    """Tuples (many, rules) with small possible keys and large sure ones: for many of them no table has just the keys."""
    draw = random.Random(seed)
    for _ in range(times):
        many = draw.choice((3, 4, 4))
        size = draw.randint(2, many)
        sure = list(combinations(range(many), size))
        draw.shuffle(sure)
        smaller = [some for some in all_sets(many) if 1 <= len(some) <= 3]
        known = draw.choice(((), (), (), (0,), (1, 2)))
        yield many, (known, tuple(sure[:draw.choice((2, 3, 4, 6))]), tuple(draw.sample(smaller, draw.randint(1, 6))))


def all_rules_of_two_columns():
    sets = all_sets(2)
    families = [tuple(family) for count in range(5) for family in combinations(sets, count)]
    return [(known, sure, possible) for known in sets for sure in families for possible in families]


def drawn_close_case(draw):
    """Columns, a table of up to 8 rows and a set: the rows share their parts, in chains too, and few have new ones."""
    columns = tuple(draw.choice([(0, 1), (0, 1), (0, 3, 7), (4,), None]) for _ in range(draw.randint(1, 3)))
    some = drawn_set(draw, len(columns)) if draw.random() < 0.3 else tuple(range(len(columns)))
    table = ()
    for _ in range(draw.choice((3, 5, 6, 7, 8))):
        row = tuple(draw.choice(column or (0, 6)) for column in columns)
        # Mostly in a closed column: an unknown entry in an open one gives a part that no other row has.
        k = draw.randrange(len(columns))
        if draw.random() < (0.6 if columns[k] else 0.2) and unknown_count(table) < 6:
            row = row[:k] + (None,) + row[k + 1:]
        table = table + (row,)
    return columns, table, some


def drawn_worths(draw, many):
    """Worths of which some are equal."""
    highest = draw.choice((1, 2, 9, 9, 10 ** 30))
    return tuple(draw.choice((0, highest, draw.randint(0, highest), draw.randint(0, highest))) for _ in range(many))


def known_places(table):
    return tuple((i, k) for i, row in enumerate(table) for k, entry in enumerate(row) if entry is not None)


def drawn_held(draw, table):
    """Held entries: none, a few, a whole column, most or all."""
    places = known_places(table)
    share = draw.choice((0, 0, 0.2, 0.5, 0.8, 1))
    if draw.random() < 0.2 and table:
        column = draw.randrange(len(table[0]))
        return tuple((i, k) for i, k in places if k == column)
    return tuple(place for place in places if draw.random() < share)
