"""surekeys.worlds: worlds, their keys, and how many there are."""

import unittest

from surekeys.errors import InvalidWorld
from surekeys.worlds import is_key, is_world, world_count
from tests.samples import WRONG_EVERYWHERE, all_sets, all_tables, equal_rows, some_worlds

MIXED = (None, (0, 1))


class IsWorldTest(unittest.TestCase):

    def test_example(self):
        found = [is_world(MIXED, ((5, None),), ((5, 1),)), is_key(MIXED, ((5, 0), (5, 1)), (1,))]
        self.assertEqual(found, [True, True])

    def test_right(self):
        table = ((5, None), (None, 0), (None, None))
        for value in [((5, 0), (0, 0), (0, 0)), ((5, 1), (10 ** 29, 0), (5, 1)), ((5, 1), (5, 0), (7, 0))]:
            self.assertIs(is_world(MIXED, table, value), True)

    def test_unknown_entries_apart(self):
        # The unknown entries of one column are filled independently of one another.
        table = ((None, 0), (None, 0))
        for value in [((3, 0), (3, 0)), ((3, 0), (4, 0)), ((4, 0), (3, 0))]:
            self.assertIs(is_world(MIXED, table, value), True)

    def test_known_entry_changed(self):
        table = ((5, None), (None, 0))
        for value in [((6, 0), (5, 0)), ((5, 0), (5, 1)), ((4, 1), (0, 1)), ((0, 5), (5, 0))]:
            self.assertIs(is_world(MIXED, table, value), False)

    def test_entry_left_unknown(self):
        table = ((5, None), (None, 0))
        for value in [table, ((5, None), (1, 0)), ((5, 1), (None, 0)), ((None, 1), (5, 0))]:
            self.assertIs(is_world(MIXED, table, value), False)

    def test_rows(self):
        table = ((5, None), (6, 0))
        for value in [(), ((5, 0),), ((6, 0),), ((5, 0), (6, 0), (6, 0)), ((6, 0), (5, 0))]:
            self.assertIs(is_world(MIXED, table, value), False)

    def test_no_value_of_the_column(self):
        for value in [((5, 2),), ((5, -1),), ((5, True),), ((5, False),), ((5, '0'),), ((5, (0, 1)),), ((5, 0, 0),),
                      ((5,),)]:
            self.assertIs(is_world(MIXED, ((5, None),), value), False)
        for value in [((-1, 0),), ((True, 0),), (('', 0),)]:
            self.assertIs(is_world(MIXED, ((None, 0),), value), False)

    def test_bool_is_no_known_entry(self):
        self.assertIs(is_world(MIXED, ((1, 0),), ((True, 0),)), False)
        self.assertIs(is_world(MIXED, ((1, 0),), ((1, False),)), False)

    def test_lists(self):
        for value in [[(5, 0)], ([5, 0],), [[5, 0]]]:
            self.assertIs(is_world(MIXED, ((5, None),), value), False)

    def test_world_of_itself(self):
        for table in [(), ((5, 0),), ((5, 0), (5, 0)), ((0, 0),) * 8]:
            self.assertIs(is_world(MIXED, table, table), True)
        self.assertIs(is_world(MIXED, (), ((5, 0),)), False)

    def test_any_value(self):
        for table in [(), ((5, None),), ((None, 0), (5, 1))]:
            for value in WRONG_EVERYWHERE:
                self.assertIs(is_world(MIXED, table, value), False)


class IsKeyTest(unittest.TestCase):

    def test_no_rows(self):
        for some in all_sets(2):
            self.assertIs(is_key(MIXED, (), some), True)

    def test_one_row(self):
        for some in all_sets(2):
            self.assertIs(is_key(MIXED, ((5, 0),), some), True)

    def test_equal_rows(self):
        for some in all_sets(2):
            self.assertIs(is_key(MIXED, ((5, 0), (5, 0)), some), False)
            self.assertIs(is_key(MIXED, ((5, 0), (6, 1), (5, 0)), some), False)

    def test_empty_set(self):
        self.assertIs(is_key(MIXED, ((5, 0), (6, 1)), ()), False)

    def test_all_columns_of_the_set(self):
        table = ((5, 0), (5, 1), (6, 0))
        self.assertEqual([is_key(MIXED, table, some) for some in ((), (0,), (1,), (0, 1))], [False, False, False, True])

    def test_columns_apart(self):
        # The rows have the same entries, but at other places.
        self.assertIs(is_key((None, None), ((1, 2), (2, 1)), (0, 1)), True)

    def test_unknown_entries(self):
        for table in [((None, 0),), ((5, 0), (5, None)), ((None, None), (None, None))]:
            for some in all_sets(2):
                with self.assertRaises(InvalidWorld):
                    is_key(MIXED, table, some)

    def test_all_small_worlds(self):
        for world in all_tables((None, (0, 1), None), 3, [(0, 7), (0, 1), (4,)]):
            for some in all_sets(3):
                self.assertIs(is_key((None, (0, 1), None), world, some), not equal_rows(world, some))


class WorldCountTest(unittest.TestCase):

    def test_example(self):
        self.assertEqual(world_count(MIXED, ((5, None), (6, None))), 4)

    def test_no_unknown_entry(self):
        for table in [(), ((5, 0),), ((5, 0), (5, 0)), ((5, 0), (6, 1))]:
            self.assertEqual(world_count(MIXED, table), 1)

    def test_closed_columns(self):
        columns = ((0, 1), (3, 4, 5), (8,), None)
        self.assertEqual(world_count(columns, ((None, None, None, 0),)), 6)
        self.assertEqual(world_count(columns, ((0, 3, None, 0),)), 1)
        self.assertEqual(world_count(columns, ((None, None, 8, 0), (None, None, None, 0))), 36)
        self.assertEqual(world_count(columns, ((1, None, 8, 0),) * 6), 3 ** 6)

    def test_open_column(self):
        for table in [((None, 0),), ((None, None),), ((5, None), (None, 1)), ((5, 0), (6, 1), (None, 1))]:
            self.assertIsNone(world_count(MIXED, table))

    def test_all_small_tables(self):
        columns = ((0, 1), (2, 5, 6))
        for table in all_tables(columns, 2, [(0, 1, None), (2, 6, None)]):
            worlds = list(some_worlds(columns, table))
            self.assertEqual(world_count(columns, table), len(set(worlds)))
            for world in worlds:
                self.assertIs(is_world(columns, table, world), True)

    def test_kind_of_the_number(self):
        self.assertIs(type(world_count(MIXED, ((5, None),))), int)


if __name__ == '__main__':
    unittest.main()
