"""surekeys.meeting, and the first promise of point 3: either a world in which the set is no key, or a sure key."""

import unittest

from surekeys.meeting import can_meet, is_sure, meeting_world, meetings
from surekeys.worlds import is_key, is_world
from tests.samples import all_sets, all_tables, equal_rows, some_worlds

MIXED = (None, (0, 1))
# Each: columns, the most rows, and the entries of each column in the tables that are looked through.
SMALL = [
    (MIXED, 3, [(0, 5, None), (0, 1, None)]),
    (((2, 4, 6), (3,)), 3, [(2, 6, None), (3, None)]),
    ((None, None, (0, 1)), 2, [(0, 5, None), (5, None), (0, 1, None)]),
    ((None,), 4, [(0, 1, None)]),
]


def each_small_table():
    for columns, most, entries in SMALL:
        for table in all_tables(columns, most, entries):
            if sum(entry is None for row in table for entry in row) <= 6:
                yield columns, table


class CanMeetTest(unittest.TestCase):

    def test_equal_and_different(self):
        table = ((5, 0), (5, 1), (6, 0))
        self.assertIs(can_meet(MIXED, table, 0, 1, (0,)), True)
        self.assertIs(can_meet(MIXED, table, 0, 1, (1,)), False)
        self.assertIs(can_meet(MIXED, table, 0, 1, (0, 1)), False)
        self.assertIs(can_meet(MIXED, table, 1, 2, (0, 1)), False)
        self.assertIs(can_meet(MIXED, table, 1, 2, ()), True)

    def test_unknown_entries(self):
        table = ((None, 0), (5, None), (None, None), (6, 1))
        self.assertIs(can_meet(MIXED, table, 0, 1, (0, 1)), True)
        self.assertIs(can_meet(MIXED, table, 0, 3, (0,)), True)
        self.assertIs(can_meet(MIXED, table, 0, 3, (0, 1)), False)
        self.assertIs(can_meet(MIXED, table, 1, 3, (1,)), True)
        self.assertIs(can_meet(MIXED, table, 1, 3, (0, 1)), False)
        self.assertIs(can_meet(MIXED, table, 2, 3, (0, 1)), True)

    def test_a_row_with_itself(self):
        table = ((5, 0), (None, 1), (None, None))
        for i in range(3):
            for some in all_sets(2):
                self.assertIs(can_meet(MIXED, table, i, i, some), True)

    def test_both_orders(self):
        for columns, table in each_small_table():
            for some in all_sets(len(columns)):
                for i in range(len(table)):
                    for j in range(len(table)):
                        there = can_meet(columns, table, i, j, some)
                        self.assertIs(can_meet(columns, table, j, i, some), there)

    def test_small_tables(self):
        for columns, table in each_small_table():
            worlds = list(some_worlds(columns, table))
            for some in all_sets(len(columns)):
                for j in range(len(table)):
                    for i in range(j):
                        equal = any(equal_rows((world[i], world[j]), some) for world in worlds)
                        self.assertIs(can_meet(columns, table, i, j, some), equal)


class MeetingsTest(unittest.TestCase):

    def test_example(self):
        table = ((5, None), (5, 0), (6, 0))
        self.assertEqual([meetings(MIXED, table, (0, 1)), is_sure(MIXED, table, (0, 1))], [[(0, 1)], False])

    def test_ascending(self):
        table = ((None, 0), (5, None), (6, 0), (5, 1), (None, None))
        found = meetings(MIXED, table, (0, 1))
        self.assertEqual(found, [(0, 1), (0, 2), (0, 4), (1, 3), (1, 4), (2, 4), (3, 4)])
        self.assertEqual(meetings(MIXED, ((0, 0),) * 4, ()), [(0, 1), (0, 2), (0, 3), (1, 2), (1, 3), (2, 3)])

    def test_none(self):
        for some in all_sets(2):
            self.assertEqual(meetings(MIXED, (), some), [])
            self.assertEqual(meetings(MIXED, ((None, None),), some), [])
        self.assertEqual(meetings(MIXED, tuple((k, None) for k in range(6)), (0,)), [])

    def test_eight_rows(self):
        self.assertEqual(len(meetings(MIXED, ((3, 1),) * 8, (0, 1))), 28)

    def test_small_tables(self):
        for columns, table in each_small_table():
            for some in all_sets(len(columns)):
                rows = range(len(table))
                expected = [(i, j) for i in rows for j in rows if i < j and can_meet(columns, table, i, j, some)]
                found = meetings(columns, table, some)
                self.assertEqual(found, expected)
                self.assertIs(type(found), list)

    def test_new_list(self):
        table = ((5, None), (5, 0), (6, 0))
        first = meetings(MIXED, table, (0,))
        first.append('more')
        first[0] = None
        self.assertEqual(meetings(MIXED, table, (0,)), [(0, 1)])


class IsSureTest(unittest.TestCase):

    def test_ordinary(self):
        self.assertIs(is_sure(MIXED, ((5, None), (6, None)), (0,)), True)
        self.assertIs(is_sure(MIXED, ((5, None), (None, None)), (0,)), False)
        self.assertIs(is_sure(MIXED, ((None, 0), (None, 1)), (0, 1)), True)

    def test_few_rows(self):
        for some in all_sets(2):
            self.assertIs(is_sure(MIXED, (), some), True)
            self.assertIs(is_sure(MIXED, ((None, None),), some), True)

    def test_empty_set(self):
        self.assertIs(is_sure(MIXED, ((5, 0), (6, 1)), ()), False)

    def test_closed_column_of_one_value(self):
        self.assertIs(is_sure(((7,),), ((7,), (None,)), (0,)), False)

    def test_sure_exactly_without_meetings(self):
        for columns, table in each_small_table():
            for some in all_sets(len(columns)):
                self.assertIs(is_sure(columns, table, some), meetings(columns, table, some) == [])

    def test_sure_exactly_if_key_of_all_worlds(self):
        for columns, table in each_small_table():
            worlds = list(some_worlds(columns, table))
            for some in all_sets(len(columns)):
                everywhere = not any(equal_rows(world, some) for world in worlds)
                self.assertIs(is_sure(columns, table, some), everywhere)


class MeetingWorldTest(unittest.TestCase):

    def no_key_in(self, columns, table, some):
        world = meeting_world(columns, table, some)
        self.assertIs(is_world(columns, table, world), True, (table, some, world))
        self.assertIs(is_key(columns, world, some), False, (table, some, world))

    def test_sure(self):
        self.assertIsNone(meeting_world(MIXED, ((5, None), (6, None)), (0,)))
        self.assertIsNone(meeting_world(MIXED, (), ()))
        self.assertIsNone(meeting_world(MIXED, ((None, None),), (0, 1)))

    def test_one_entry_known(self):
        self.no_key_in((None,), ((5,), (None,)), (0,))
        self.no_key_in((None,), ((None,), (5,)), (0,))
        self.no_key_in(((3, 4),), ((4,), (None,)), (0,))
        self.no_key_in(((3, 4),), ((None,), (4,)), (0,))
        self.no_key_in(MIXED, ((5, None), (None, 1)), (0, 1))

    def test_both_entries_unknown(self):
        self.no_key_in((None,), ((None,), (None,)), (0,))
        self.no_key_in(((3, 4),), ((None,), (None,)), (0,))
        self.no_key_in(((9,),), ((None,), (None,)), (0,))
        self.no_key_in(MIXED, ((None, None), (None, None)), (0, 1))

    def test_no_entry_unknown(self):
        self.no_key_in(MIXED, ((5, 0), (5, 0)), (0, 1))
        self.no_key_in(MIXED, ((5, 0), (6, 0)), ())

    def test_entries_outside_of_the_set(self):
        self.no_key_in(MIXED, ((5, None), (5, 0), (6, None)), (0,))
        self.no_key_in(MIXED, ((None, 1), (7, 1), (None, None)), (1,))

    def test_last_rows(self):
        self.no_key_in(MIXED, ((0, 0), (1, 0), (2, 0), (3, 0), (4, 0), (5, 0), (6, None), (None, 1)), (0, 1))

    def test_none_exactly_if_sure(self):
        for columns, table in each_small_table():
            for some in all_sets(len(columns)):
                if is_sure(columns, table, some):
                    self.assertIsNone(meeting_world(columns, table, some))
                else:
                    self.no_key_in(columns, table, some)


if __name__ == '__main__':
    unittest.main()
