"""Stage 16: how many worlds keep a demand, and count trees.

Entries are filled one after the other, as in a tree, but only until either two rows are twins, so that no world is
left, or all the sets are sure keys, so that all worlds are. Where an entry of an open column is unknown, there is no
count tree.
"""

from surekeys.fillings import with_entry
from surekeys.meeting import meeting_rows
from surekeys.needs import need_table_and_demand
from surekeys.several import are_twins, can_be_kept, twins_of
from surekeys.shapes import is_number_below, unknown_places
from surekeys.worlds import has_open_unknown, number_of_worlds


def kept_count(columns, table, demand):
    """The number of the worlds that keep the demand, or None if there are endlessly many."""
    need_table_and_demand(columns, table, demand)
    return number_of_kept(columns, table, demand)


def count_tree(columns, table, demand):
    """A count tree, or None if an entry of an open column is unknown."""
    need_table_and_demand(columns, table, demand)
    if has_open_unknown(columns, table):
        return None
    tree, _ = tree_and_number(columns, table, demand)
    return tree


def tree_number(columns, table, demand, value):
    """The number of the value, if it is a count tree, otherwise None."""
    need_table_and_demand(columns, table, demand)
    return number_of_tree(columns, table, demand, value)


def value_counts(columns, table, demand):
    """The ascending list of the tuples (row, column, value, number) for the unknown entries in closed columns."""
    need_table_and_demand(columns, table, demand)
    places = [(i, k) for i, k in unknown_places(table) if columns[k] is not None]
    return [(i, k, value, number_of_kept(columns, with_entry(table, i, k, value), demand))
            for i, k in places for value in columns[k]]


def number_of_kept(columns, table, demand):
    """The number of the worlds that keep the demand, or None if there are endlessly many."""
    if has_open_unknown(columns, table):
        return None if can_be_kept(columns, table, demand) else 0
    _, number = tree_and_number(columns, table, demand)
    return number


def tree_and_number(columns, table, demand):
    """A count tree and its number."""
    twins = twins_of(table, demand)
    if twins is not None:
        return twins, 0
    meeting = meeting_unknown(table, demand)
    if meeting is None:
        return ("sure",), number_of_worlds(columns, table)
    i, k = meeting
    branches = [tree_and_number(columns, with_entry(table, i, k, value), demand) for value in columns[k]]
    return ("split", i, k, tuple([tree for tree, _ in branches])), sum([number for _, number in branches])


def meeting_unknown(table, demand):
    """The place of an unknown entry by which two rows that are no twins can meet in a set of the demand, or None."""
    for some in demand:
        for pair in meeting_rows(table, some):
            for i in pair:
                for k in some:
                    if table[i][k] is None:
                        return i, k
    return None


def number_of_tree(columns, table, demand, value):
    """The number of any value, if it is a count tree, otherwise None."""
    if has_open_unknown(columns, table) or not isinstance(value, tuple):
        return None
    if len(value) == 1 and value[0] == "sure":
        sure = not any([meeting_rows(table, some) for some in demand])
        return number_of_worlds(columns, table) if sure else None
    if len(value) != 4:
        return None
    word, i, k, rest = value
    if word == "twins":
        return 0 if are_twins(table, demand, i, k, rest) else None
    if word != "split" or not is_number_below(i, len(table)) or not is_number_below(k, len(columns)):
        return None
    return number_of_split(columns, table, demand, (i, k), rest) if table[i][k] is None else None


def number_of_split(columns, table, demand, place, trees):
    """The sum of the numbers of these trees, any value, if there is a count tree for each value, otherwise None."""
    i, k = place
    if not isinstance(trees, tuple) or len(trees) != len(columns[k]):
        return None
    numbers = [number_of_tree(columns, with_entry(table, i, k, value), demand, tree)
               for value, tree in zip(columns[k], trees)]
    return None if None in numbers else sum(numbers)
