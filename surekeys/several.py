"""Stage 5: several keys at once.

The unknown entries are filled one after the other until two rows are twins or none is left. In an open column a new
value is never worse than another one, so it is the only one to be looked at there.
"""

from surekeys.fillings import filled, new_value, with_entry
from surekeys.needs import need_table_and_demand
from surekeys.pairs import rows_are_alike
from surekeys.shapes import is_number_below, unknown_places


def common_world(columns, table, demand):
    """A world that keeps the demand, or None."""
    need_table_and_demand(columns, table, demand)
    world, _ = world_or_tree(columns, table, demand)
    return world


def twin_tree(columns, table, demand):
    """A tree that is right for the table, or None."""
    need_table_and_demand(columns, table, demand)
    _, tree = world_or_tree(columns, table, demand)
    return tree


def is_twin_tree(columns, table, demand, value):
    """True if the value is a tree that is right for the table, otherwise False."""
    need_table_and_demand(columns, table, demand)
    return fits_tree(columns, table, demand, value)


def can_be_kept(columns, table, demand):
    """Whether some world keeps the demand."""
    world, _ = world_or_tree(columns, table, demand)
    return world is not None


def world_or_tree(columns, table, demand):
    """A tuple (world, None) with a world that keeps the demand, or (None, tree) with a tree that is right."""
    twins = twins_of(table, demand)
    if twins is not None:
        return None, twins
    return grown_world_or_tree(columns, table, demand, places_to_fill(columns, table, demand))


def twins_of(table, demand):
    """Any twins, or None."""
    for i in range(len(table)):
        twins = twins_with(table, demand, i)
        if twins is not None:
            return twins
    return None


def twins_with(table, demand, i):
    """Twins of which one is row i, or None."""
    for j, other in enumerate(table):
        for k, some in enumerate(demand):
            if j != i and rows_are_alike(table[i], other, some):
                return ("twins", min(i, j), max(i, j), k)
    return None


def places_to_fill(columns, table, demand):
    """The unknown entries on which a demanded set looks, those of open columns first: these need no split."""
    places = [(i, k) for i, k in unknown_places(table) if any([k in some for some in demand])]
    return [(i, k) for i, k in places if columns[k] is None] + [(i, k) for i, k in places if columns[k] is not None]


def grown_world_or_tree(columns, table, demand, places):
    """As world_or_tree, for a table without twins in which these entries are still to be filled."""
    if not places:
        return filled(columns, table), None
    i, k = places[0]
    trees = []
    for value in values_to_try(columns, table, k):
        grown = with_entry(table, i, k, value)
        # Rows that were no twins before can only have become some by the new entry.
        tree = twins_with(grown, demand, i)
        if tree is None:
            world, tree = grown_world_or_tree(columns, grown, demand, places[1:])
            if world is not None:
                return world, None
        trees.append(tree)
    if columns[k] is None:
        return None, ("new", i, k, trees[0])
    return None, ("split", i, k, tuple(trees))


def values_to_try(columns, table, k):
    return (new_value(table, k),) if columns[k] is None else columns[k]


def fits_tree(columns, table, demand, value):
    """Whether any value is a tree that is right for the table."""
    if not isinstance(value, tuple) or len(value) != 4:
        return False
    word, i, k, rest = value
    if word == "twins":
        return are_twins(table, demand, i, k, rest)
    if not is_number_below(i, len(table)) or not is_number_below(k, len(columns)) or table[i][k] is not None:
        return False
    if word == "new" and columns[k] is None:
        return fits_tree(columns, with_entry(table, i, k, new_value(table, k)), demand, rest)
    return word == "split" and columns[k] is not None and fit_split(columns, table, demand, (i, k), rest)


def are_twins(table, demand, i, j, k):
    """Whether any values i, j and k are the numbers of two rows and of a set in which they are alike."""
    if not is_number_below(j, len(table)) or not is_number_below(i, j) or not is_number_below(k, len(demand)):
        return False
    return rows_are_alike(table[i], table[j], demand[k])


def fit_split(columns, table, demand, place, trees):
    """Whether any value is a tuple with a right tree for each value of the closed column at this place."""
    i, k = place
    if not isinstance(trees, tuple) or len(trees) != len(columns[k]):
        return False
    for value, tree in zip(columns[k], trees):
        if not fits_tree(columns, with_entry(table, i, k, value), demand, tree):
            return False
    return True
