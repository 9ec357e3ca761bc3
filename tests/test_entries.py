"""surekeys.entries: which values are barred from unknown entries, and which entries are settled."""

import random
import unittest

from surekeys.entries import barred, settled
from surekeys.errors import InvalidEntry
from surekeys.several import common_world
from tests.samples import all_sets, all_tables, drawn_hard_case, keeps, some_worlds, unknown_count

BITS = ((0, 1), (0, 1))
MIXED = (None, (0, 1))
# Each: columns, the most rows, and the entries of each column in the tables that are looked through.
SMALL = [
    (MIXED, 2, [(0, 5, None), (0, 1, None)]),
    (BITS, 3, [(0, None), (1, None)]),
    ((None, (3,)), 3, [(0, None), (3, None)]),
    ((None, None), 2, [(0, None), (0, 3, None)]),
]


def unknown_places(table):
    return [(i, k) for i, row in enumerate(table) for k, entry in enumerate(row) if entry is None]


def expected_barred(columns, table, worlds, i, column):
    """By all worlds that keep the demand."""
    judged = columns[column]
    if judged is None:
        judged = sorted({row[column] for j, row in enumerate(table) if j != i and row[column] is not None})
    there = {world[i][column] for world in worlds}
    return [value for value in judged if value not in there]


def expected_settled(table, worlds):
    """By all worlds that keep the demand, among them more than one new value for each entry of an open column."""
    found = []
    for i, k in unknown_places(table):
        there = {world[i][k] for world in worlds}
        if len(there) == 1:
            found.append((i, k, there.pop()))
    return found


class Cases(unittest.TestCase):

    def as_in_all_worlds(self, columns, table, demand):
        worlds = [world for world in some_worlds(columns, table, more=1) if keeps(world, demand)]
        found = settled(columns, table, demand)
        self.assertEqual(found, expected_settled(table, worlds), (columns, table, demand))
        self.assertIs(type(found), list)
        for i, k in unknown_places(table):
            found = barred(columns, table, demand, i, k)
            self.assertEqual(found, expected_barred(columns, table, worlds, i, k), (columns, table, demand, i, k))
            self.assertIs(type(found), list)


class EntriesTest(Cases):

    def test_small_tables(self):
        for columns, most, entries in SMALL:
            sets = all_sets(len(columns))
            for table in all_tables(columns, most, entries):
                if unknown_count(table) <= 4:
                    for demand in [()] + [(one,) for one in sets] + [(one, two) for one in sets for two in sets[1:]]:
                        self.as_in_all_worlds(columns, table, demand)

    def test_drawn_tables(self):
        draw = random.Random(12)
        for _ in range(700):
            columns, table, demand = drawn_hard_case(draw, draw.choice((2, 3, 4, 6)))
            if unknown_count(table) <= 4:
                self.as_in_all_worlds(columns, table, demand)


class BarredTest(Cases):

    def test_example(self):
        self.assertEqual(barred(BITS, ((None, 0), (0, None)), ((0,), (1,)), 0, 0), [0])

    def test_no_demand(self):
        table = ((5, None), (None, 0), (6, 1))
        self.assertEqual(barred(MIXED, table, (), 1, 0), [])
        self.assertEqual(barred(MIXED, table, (), 0, 1), [])

    def test_no_world_keeps_the_demand(self):
        table, demand = ((None, None), (7, 0), (5, 0), (5, None)), ((1,),)
        self.assertIsNone(common_world(MIXED, table, demand))
        self.assertEqual(barred(MIXED, table, demand, 0, 0), [5, 7])
        self.assertEqual(barred(MIXED, table, demand, 0, 1), [0, 1])
        self.assertEqual(barred(((2, 5, 9),), ((None,), (None,)), ((),), 1, 0), [2, 5, 9])

    def test_a_row_alone(self):
        for demand in [(), ((0,),), ((), (0, 1))]:
            self.assertEqual(barred(MIXED, ((None, None),), demand, 0, 0), [])
            self.assertEqual(barred(MIXED, ((None, None),), demand, 0, 1), [])
            self.assertEqual(settled(((4,), (0, 1)), ((None, None),), demand), [(0, 0, 4)])

    def test_open_columns(self):
        table = ((5, 0), (None, 0), (9, 0), (5, 1), (2, 1), (None, 1))
        # Of the values of other rows, each once: just those of rows that would be equal are barred.
        self.assertEqual(barred(MIXED, table, ((0, 1),), 1, 0), [5, 9])
        self.assertEqual(barred(MIXED, table, ((0, 1),), 5, 0), [2, 5])
        self.assertEqual(barred(MIXED, table[:3] + table[4:], ((0,),), 1, 0), [2, 5, 9])
        self.assertEqual(barred(MIXED, table, ((0,),), 1, 0), [2, 5, 9])

    def test_values_of_the_same_row_and_of_other_columns(self):
        self.assertEqual(barred((None, None), ((None, 3), (4, 8)), ((0,),), 0, 0), [4])
        self.assertEqual(barred((None, None), ((None, 3),), ((0,),), 0, 0), [])
        self.assertEqual(barred((None, None), ((None, 3), (None, 8)), ((0,), (1,)), 0, 0), [])

    def test_closed_columns(self):
        table = ((2, 0), (None, 0), (None, 0))
        self.assertEqual(barred(((2, 4, 6), (0, 1)), table, ((0,),), 1, 0), [2])
        self.assertEqual(barred(((2, 4, 6), (0, 1)), table + ((6, 1),), ((0,),), 1, 0), [2, 4, 6])
        self.assertEqual(barred(((2, 4, 6), (0, 1)), table + ((6, 1),), ((0, 1),), 1, 0), [2])
        self.assertEqual(barred(((3,),), ((None,),), ((0,),), 0, 0), [])

    def test_known_entry(self):
        table = ((5, None), (None, 0))
        for demand in [(), ((0,),), ((), ())]:
            for i, column in ((0, 0), (1, 1)):
                with self.assertRaises(InvalidEntry):
                    barred(MIXED, table, demand, i, column)
            barred(MIXED, table, demand, 0, 1)
            barred(MIXED, table, demand, 1, 0)


class SettledTest(Cases):

    def test_example(self):
        self.assertEqual(settled(BITS, ((None, 0), (0, None)), ((0,), (1,))), [(0, 0, 1), (1, 1, 1)])

    def test_ascending(self):
        columns, table = ((0, 1), (3,), (0, 1)), ((1, 3, None), (None, None, 0))
        self.assertEqual(settled(columns, table, ((0,), (2,))), [(0, 2, 1), (1, 0, 0), (1, 1, 3)])
        self.assertEqual(settled(columns, table, ()), [(1, 1, 3)])

    def test_no_world_keeps_the_demand(self):
        self.assertEqual(settled(((3,), (0, 1)), ((None, 0), (None, None)), ((0,),)), [])
        self.assertEqual(settled(((3,), (0, 1)), ((None, 0), (None, None)), ((),)), [])
        self.assertEqual(settled(((3,), (0, 1)), ((None, 0), (None, None)), ((1,),)), [(0, 0, 3), (1, 0, 3), (1, 1, 1)])

    def test_open_columns_are_never_settled(self):
        self.assertEqual(settled((None,), ((None,), (0,)), ((0,),)), [])
        self.assertEqual(settled(MIXED, ((None, None), (5, 0)), ((0,), (1,))), [(0, 1, 1)])

    def test_nothing_unknown(self):
        self.assertEqual(settled(BITS, (), ((0,),)), [])
        self.assertEqual(settled(BITS, ((0, 1), (1, 1)), ((0,),)), [])

    def test_several_rows_share_what_is_left(self):
        columns = ((0, 1, 2),)
        self.assertEqual(settled(columns, ((None,), (None,), (1,)), ((0,),)), [])
        self.assertEqual(settled(columns, ((2,), (None,), (1,)), ((0,),)), [(1, 0, 0)])
        # Rows 0 and 1 have 0 and 1 in some order, so row 2 has 2.
        wide = ((0, 1, 2), (0, 1))
        table = ((0, 0), (0, 1), (1, None), (1, None), (2, 0), (None, 1))
        self.assertEqual(settled(wide, table, ((0, 1),)), [(5, 0, 2)])


if __name__ == '__main__':
    unittest.main()
