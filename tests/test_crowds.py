"""surekeys.crowds, and the second promise of point 3: either a world in which the set is a key, or a crowd."""

import random
import unittest
from itertools import combinations

from surekeys.crowds import crowd, is_crowd, is_possible, key_world
from surekeys.worlds import is_key, is_world
from tests.judges import crowd_is_right, has_crowd
from tests.samples import (WRONG_EVERYWHERE, all_sets, all_tables, changed_somewhere, drawn_columns, drawn_set,
                           drawn_table, equal_rows, some_worlds, unknown_count)

MIXED = (None, (0, 1))
# Each: columns, the most rows, and the entries of each column in the tables that are looked through.
SMALL = [
    (MIXED, 3, [(0, 5, None), (0, 1, None)]),
    (((2, 4, 6), (3,)), 4, [(2, 6, None), (3, None)]),
    ((None, None, (0, 1)), 2, [(0, 5, None), (5, None), (0, 1, None)]),
    ((None,), 4, [(0, 1, None)]),
    (((0, 1), (0, 1)), 3, [(0, 1, None), (0, 1, None)]),
]


def each_small_table():
    for columns, most, entries in SMALL:
        for table in all_tables(columns, most, entries):
            if unknown_count(table) <= 6:
                yield columns, table


def each_drawn_table(times):
    draw = random.Random(7)
    for _ in range(times):
        columns = drawn_columns(draw, draw.randint(1, 4))
        yield columns, drawn_table(draw, columns, draw.choice((2, 5, 8, 8)), draw.randint(0, 6)), draw


class Cases(unittest.TestCase):

    def possible(self, columns, table, some):
        self.assertIs(is_possible(columns, table, some), True, (columns, table, some))
        self.assertIsNone(crowd(columns, table, some))
        world = key_world(columns, table, some)
        self.assertIs(is_world(columns, table, world), True, (columns, table, some, world))
        self.assertIs(is_key(columns, world, some), True, (columns, table, some, world))

    def crowded(self, columns, table, some):
        self.assertIs(is_possible(columns, table, some), False, (columns, table, some))
        self.assertIsNone(key_world(columns, table, some))
        found = crowd(columns, table, some)
        self.assertTrue(crowd_is_right(columns, table, some, found), (columns, table, some, found))
        self.assertIs(is_crowd(columns, table, some, found), True)


class PossibleTest(Cases):

    def test_example(self):
        table = ((5, None), (6, None), (7, None))
        self.assertEqual([is_possible(MIXED, table, (1,)), crowd(MIXED, table, (1,))], [False, (0, 1, 2)])

    def test_few_rows(self):
        for some in all_sets(2):
            self.possible(MIXED, (), some)
            self.possible(MIXED, ((None, None),), some)
            self.possible(MIXED, ((5, 0),), some)

    def test_empty_set(self):
        self.crowded(MIXED, ((5, 0), (6, 1)), ())
        self.crowded(MIXED, ((None, None), (None, None)), ())
        self.assertEqual(len(key_world(MIXED, ((None, None),), ())), 1)

    def test_equal_rows(self):
        self.crowded(MIXED, ((5, 0), (6, 1), (5, 0)), (0, 1))
        self.assertEqual(crowd(MIXED, ((5, 0), (6, 1), (5, 0)), (0, 1)), (0, 2))
        self.possible(MIXED, ((None, 0), (None, 0), (None, 0)), (0,))
        self.crowded(((4, 5),), ((None,), (None,), (None,)), (0,))

    def test_closed_column_of_one_value(self):
        self.possible(((7,),), ((None,),), (0,))
        self.crowded(((7,),), ((7,), (None,)), (0,))
        self.crowded(((7,),), ((None,), (None,)), (0,))
        self.possible(((7,), (0, 1)), ((None, None), (7, 0)), (0, 1))

    def test_open_columns(self):
        self.possible((None, None), ((None, 0), (0, None), (None, None), (0, 0), (1, 1)), (0, 1))
        self.possible((None, None), ((None, 0), (None, 0), (3, 0), (4, None)), (0, 1))
        self.crowded((None, None), ((None, 0), (None, 0)), (1,))
        self.possible((None,), ((None,), (0,), (None,), (10 ** 30 - 1,)), (0,))

    def test_entries_outside_of_the_set_do_not_count(self):
        self.crowded((None, None), ((None, 4), (5, 4)), (1,))
        self.possible((None, (0, 1)), ((3, None), (3, None)), (1,))

    def test_chains(self):
        columns = ((0, 1, 2), (0, 1, 2))
        chain = ((0, 0), (None, 0), (1, None), (1, 2))
        self.possible(columns, chain, (0, 1))
        # Each row can have its neighbour's part, and the last one leaves no part for the first.
        columns = ((0, 1), (0, 1), (0, 1))
        chain = ((0, 0, 0), (None, 0, 0), (1, None, 0), (1, 1, None), (1, 1, 1))
        self.crowded(columns, chain, (0, 1, 2))
        self.assertEqual(crowd(columns, chain, (0, 1, 2)), (0, 1, 2, 3, 4))
        for left_out in range(5):
            self.possible(columns, chain[:left_out] + chain[left_out + 1:], (0, 1, 2))

    def test_parts_have_to_be_given_again(self):
        # Each row that comes later wants the part that the row before it would take first.
        columns = ((0, 1, 2), (0, 1))
        table = ((None, 0), (None, 0), (0, None), (0, 0), (1, 0))
        self.crowded(columns, table, (0, 1))
        self.possible(columns, table[:4], (0, 1))
        self.possible(columns, table[1:], (0, 1))

    def test_eight_rows_and_six_unknown_entries(self):
        columns = ((0, 1, 2), (0, 1, 2))
        full = ((None, None), (None, None), (None, None), (0, 0), (0, 1), (1, 0), (1, 1), (2, 2))
        self.possible(columns, full, (0, 1))
        self.crowded(columns, full, (0,))
        self.crowded(((0, 1), (0, 1, 2)), full[:7] + ((1, 2),), (0, 1))
        self.possible((None,), ((None,),) * 6 + ((0,), (1,)), (0,))
        self.possible((None,) * 4, ((None,) * 4, (None, None, 0, 0)) + tuple((k, 0, 0, 0) for k in range(6)), (0,))
        narrow = ((0, 1), (0, 1), (0, 1), None)
        rows = ((None, None, None, 3), (None, None, None, 3)) + tuple((k >> 2, k >> 1 & 1, k & 1, 3) for k in range(6))
        self.possible(narrow, rows, (0, 1, 2, 3))
        self.crowded(narrow, rows[:7] + rows[6:7], (0, 1, 2))
        self.possible(narrow, ((None,) * 3 + (None,), (None, None, 0, 3)) + ((0, 0, 0, 3), (0, 1, 0, 3), (1, 0, 0, 3)),
                      (0, 1, 2))
        self.crowded(narrow, ((0, None, None, None), (None, None, 0, 3)) + ((0, 0, 0, 3), (0, 1, 0, 3), (0, 0, 1, 3),
                                                                          (0, 1, 1, 0)), (0, 1, 2))

    def test_against_all_worlds_of_small_tables(self):
        for columns, table in each_small_table():
            worlds = list(some_worlds(columns, table))
            for some in all_sets(len(columns)):
                if any(not equal_rows(world, some) for world in worlds):
                    self.possible(columns, table, some)
                else:
                    self.crowded(columns, table, some)

    def test_against_all_crowds_of_drawn_tables(self):
        for columns, table, _ in each_drawn_table(250):
            for some in all_sets(len(columns)):
                if has_crowd(columns, table, some):
                    self.crowded(columns, table, some)
                else:
                    self.possible(columns, table, some)

    def test_values_stay_small(self):
        world = key_world((None, None), ((None, 10 ** 30), (None, 10 ** 30), (7, None)), (0, 1))
        self.assertTrue(all(0 <= entry <= 10 ** 31 for row in world for entry in row))


class IsCrowdTest(Cases):

    def right(self, columns, table, some, *values):
        for value in values:
            self.assertIs(is_crowd(columns, table, some, value), True, value)

    def wrong(self, columns, table, some, *values):
        for value in values:
            self.assertIs(is_crowd(columns, table, some, value), False, value)

    def test_right(self):
        table = ((5, None), (6, None), (7, None), (8, 0))
        self.right(MIXED, table, (1,), (0, 1, 2), (0, 1, 3), (1, 2, 3), (0, 1, 2, 3))
        self.right(MIXED, table, (), (0, 1), (2, 3), (0, 1, 2, 3))
        self.right(MIXED, ((5, 0), (6, 1), (5, 0)), (0, 1), (0, 2))
        self.right(MIXED, ((5, 0), (6, 1), (5, 0)), (0, 1), (0, 1, 2))

    def test_just_as_many_parts(self):
        table = ((5, None), (6, None), (7, None), (8, 0))
        self.wrong(MIXED, table, (1,), (0, 1), (0, 3), (2, 3))
        self.wrong(MIXED, table, (0,), (0, 1), (0, 1, 2, 3))
        self.wrong(((0, 1, 2),), ((None,), (0,), (1,)), (0,), (0, 1, 2))

    def test_order_and_numbers(self):
        table = ((5, 0),) * 3
        self.right(MIXED, table, (0, 1), (0, 1), (0, 2), (1, 2), (0, 1, 2))
        self.wrong(MIXED, table, (0, 1), (1, 0), (2, 1, 0), (0, 2, 1), (0, 0), (0, 0, 1), (0, 1, 1), (0, 3), (0, 1, 3),
                   (-1, 0), (0, 1, 10 ** 30))

    def test_too_few_rows(self):
        for some in all_sets(2):
            self.wrong(MIXED, ((5, 0),) * 3, some, (), (0,), (1,), (2,), (3,))
            self.wrong(MIXED, (), some, (), (0,), (0, 1))
            self.wrong(MIXED, ((5, 0),), some, (), (0,), (0, 1))

    def test_kinds_of_values(self):
        table = ((5, 0),) * 3
        self.wrong(MIXED, table, (0,), [0, 1], [0, 1, 2], (False, True), (0, True), (False, 1), (True, 2), '01', 'ab',
                   None, ((0, 1),), ((0,), (1,)), ([0], [1]), (0, (1,)), (0, [1]), (0, None), ('0', '1'), (0, '1'), 2)
        for value in WRONG_EVERYWHERE:
            self.wrong(MIXED, table, (0,), value)

    def test_open_columns(self):
        table = ((5, 0), (5, 0), (None, 0))
        self.right(MIXED, table, (0,), (0, 1))
        self.wrong(MIXED, table, (0,), (0, 1, 2), (0, 2), (1, 2))
        self.right(MIXED, table, (1,), (0, 1, 2), (0, 2), (1, 2))
        self.wrong(MIXED, table, (0, 1), (0, 1, 2), (0, 2), (1, 2))

    def test_all_rows_of_small_tables(self):
        for columns, table in each_small_table():
            rows = range(len(table) + 1)
            for some in all_sets(len(columns)):
                for value in [value for many in range(5) for value in combinations(rows, many)]:
                    expected = crowd_is_right(columns, table, some, value)
                    self.assertIs(is_crowd(columns, table, some, value), expected, (columns, table, some, value))

    def test_changed_crowds(self):
        others = [0, 1, 2, 7, 8, -1, None, '0', (), (0,), [1]]
        for columns, table, draw in each_drawn_table(60):
            some = drawn_set(draw, len(columns))
            for value in changed_somewhere(crowd(columns, table, some), others):
                expected = crowd_is_right(columns, table, some, value)
                self.assertIs(is_crowd(columns, table, some, value), expected, (columns, table, some, value))


if __name__ == '__main__':
    unittest.main()
