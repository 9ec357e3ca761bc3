"""surekeys.finding: the differences of rows, and the least keys of a table."""

import random
import unittest
from itertools import combinations

from surekeys.finding import differences, least_possible, least_sure
from tests.samples import all_sets, all_tables, drawn_columns, drawn_table, equal_rows, some_worlds, unknown_count

MIXED = (None, (0, 1))
SMALL = [
    (MIXED, 3, [(0, 5, None), (0, 1, None)]),
    (((0, 1), (0, 1)), 3, [(0, None), (0, 1, None)]),
    (((2, 5, 9), (4,)), 4, [(2, None), (4, None)]),
    ((None, None, (0, 1)), 2, [(0, 5, None), (5, None), (0, 1, None)]),
]


def least(sets):
    return [some for some in sets if not any(set(other) < set(some) for other in sets)]


class FindingTest(unittest.TestCase):

    def check(self, columns, table):
        """Against all worlds and all pairs of rows."""
        worlds = list(some_worlds(columns, table))
        sets = all_sets(len(columns))
        sets.sort()
        sure = [some for some in sets if not any(equal_rows(world, some) for world in worlds)]
        possible = [some for some in sets if any(not equal_rows(world, some) for world in worlds)]
        found = [least_sure(columns, table), least_possible(columns, table), differences(columns, table)]
        self.assertEqual(found[0], least(sure), (columns, table))
        self.assertEqual(found[1], least(possible), (columns, table))
        apart = {tuple(k for k in range(len(columns)) if None not in (one[k], two[k]) and one[k] != two[k])
                 for one, two in combinations(table, 2)}
        self.assertEqual(found[2], sorted(apart), (columns, table))
        self.assertEqual([type(part) for part in found], [list, list, list])
        # Point 16: sure exactly if it has a column in common with each difference.
        for some in sets:
            self.assertEqual(all(set(some) & set(other) for other in apart), some in sure)

    def test_example(self):
        table = ((5, 6), (5, 7), (None, 8))
        found = [differences((None, None), table), least_sure((None, None), table), least_possible((None, None), table)]
        self.assertEqual(found, [[(1,)], [(1,)], [(1,)]])

    def test_few_rows(self):
        for columns in [(None,), MIXED, ((4,), None, (0, 1), (5, 6, 7))]:
            for table in [(), ((None,) * len(columns),)]:
                self.assertEqual(differences(columns, table), [])
                self.assertEqual(least_sure(columns, table), [()])
                self.assertEqual(least_possible(columns, table), [()])

    def test_equal_rows(self):
        self.assertEqual(differences(MIXED, ((5, 0), (5, 0))), [()])
        self.assertEqual(least_sure(MIXED, ((5, 0), (5, 0), (6, 1))), [])
        self.assertEqual(least_possible(MIXED, ((5, 0), (5, 0), (6, 1))), [])
        self.assertEqual(least_sure(MIXED, ((None, 0), (None, 0))), [])
        self.assertEqual(least_possible(MIXED, ((None, 0), (None, 0))), [(0,)])

    def test_each_difference_once_and_ascending(self):
        table = ((1, 1, 1), (1, 1, 2), (1, 1, 3), (2, 1, 3), (None, 2, 3))
        self.assertEqual(differences((None,) * 3, table), [(0,), (0, 2), (1,), (1, 2), (2,)])
        self.assertEqual(differences((None,) * 3, ((1, 1, 1), (2, 2, 2), (3, 3, 3))), [(0, 1, 2)])

    def test_several_least_keys(self):
        table = ((0, 0, 0, 1), (0, 1, 1, 1), (1, 0, 1, 1), (1, 1, 0, None))
        self.assertEqual(least_sure((None,) * 4, table), [(0, 1), (0, 2), (1, 2)])
        self.assertEqual(least_possible((None,) * 4, table), [(0, 1), (0, 2), (1, 2)])
        table = ((None, 0, 0), (None, 1, 0), (4, None, None))
        self.assertEqual(least_sure((None,) * 3, table), [])
        self.assertEqual(least_possible((None,) * 3, table), [(0,), (1,)])
        self.assertEqual(least_possible(((4, 5), None, (0, 1)), table), [(0, 2), (1,)])

    def test_closed_columns(self):
        self.assertEqual(least_possible(((7,), (0, 1)), ((None, None), (7, None))), [(1,)])
        self.assertEqual(least_possible(((7,), (0, 1)), ((None, None), (7, None), (7, 0))), [])
        self.assertEqual(least_possible(((0, 1), (0, 1)), ((None, None),) * 3), [(0, 1)])
        self.assertEqual(least_sure(((0, 1), (0, 1)), ((None, 0), (None, 1))), [(1,)])

    def test_small_tables(self):
        for columns, most, entries in SMALL:
            for table in all_tables(columns, most, entries):
                if unknown_count(table) <= 5:
                    self.check(columns, table)

    def test_drawn_tables(self):
        draw = random.Random(41)
        for _ in range(250):
            columns = drawn_columns(draw, draw.randint(1, 4))
            self.check(columns, drawn_table(draw, columns, draw.choice((2, 4, 8)), draw.randint(0, 3)))


if __name__ == '__main__':
    unittest.main()
