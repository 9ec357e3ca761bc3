"""surekeys.kept: rows that are keepable, the greatest of them, and the spared rows."""

import random
import unittest
from itertools import product

from surekeys.crowds import is_possible
from surekeys.faults import InvalidRows
from surekeys.kept import exchange, greatest_kept, grown, is_keepable, kept_world, spared
from surekeys.worlds import is_key, is_world
from tests.judges import all_crowds, all_keepable, all_rows, left_out, short_by
from tests.samples import WRONG_EVERYWHERE, all_sets, all_tables, drawn_close_case, equal_rows, some_worlds, unknown_count

BIT = ((0, 1),)
BITS = ((0, 1), (0, 1))
MIXED = (None, (0, 1))
# Each: columns, the most rows, and the entries of each column in the tables that are looked through.
SMALL = [
    (MIXED, 3, [(0, 5, None), (0, 1, None)]),
    (((2, 4, 6), (3,)), 4, [(2, 6, None), (3, None)]),
    ((None, None, (0, 1)), 2, [(0, 5, None), (5, None), (0, 1, None)]),
    ((None,), 4, [(0, 1, None)]),
    (BITS, 3, [(0, 1, None), (0, 1, None)]),
    (BIT, 5, [(0, 1, None)]),
]
# Row 0 to 4: each can have its own part or that of the next one, and the last one has that of the row before it.
CHAIN = ((0, 1), (0, 1), (0, 1)), ((0, 0, 0), (None, 0, 0), (1, None, 0), (1, 1, None), (1, 1, 1)), (0, 1, 2)


def each_small_case():
    for columns, most, entries in SMALL:
        for table in all_tables(columns, most, entries):
            if unknown_count(table) <= 6:
                for some in all_sets(len(columns)):
                    yield columns, table, some


def each_drawn_case(times, seed):
    draw = random.Random(seed)
    for _ in range(times):
        yield drawn_close_case(draw)


def alone(table, rows):
    return tuple(table[i] for i in rows)


class Cases(unittest.TestCase):

    def check_world(self, columns, table, some, rows, keepable):
        case = (columns, table, some, rows)
        self.assertIs(is_keepable(columns, table, some, rows), keepable, case)
        world = kept_world(columns, table, some, rows)
        self.assertEqual(world is not None, keepable, case)
        if keepable:
            self.assertIs(is_world(columns, alone(table, rows), world), True, case + (world,))
            self.assertIs(is_key(columns, world, some), True, case + (world,))

    def check_rows(self, columns, table, some):
        """is_keepable, kept_world and grown for all rows."""
        keepable = all_keepable(columns, table, some)
        most = len(keepable[-1])
        for rows in all_rows(table):
            self.check_world(columns, table, some, rows, rows in keepable)
            if rows in keepable:
                found = grown(columns, table, some, rows)
                self.assertIn(found, keepable, (columns, table, some, rows))
                self.assertTrue(set(rows) <= set(found) and len(found) == most, (columns, table, some, rows, found))
            else:
                with self.assertRaises(InvalidRows):
                    grown(columns, table, some, rows)

    def check_greatest(self, columns, table, some):
        """greatest_kept and spared, against all keepable rows and all crowds."""
        case = (columns, table, some)
        keepable, crowds = all_keepable(columns, table, some), all_crowds(columns, table, some)
        greatest = [rows for rows in keepable if len(rows) == len(keepable[-1])]
        found, gone = greatest_kept(columns, table, some), spared(columns, table, some)
        self.assertIn(found, greatest, case)
        self.assertIs(type(gone), tuple)
        self.assertEqual(list(gone), [i for i in range(len(table)) if any(i not in rows for rows in greatest)], case)
        shortfalls = {rows: short_by(columns, table, some, rows) for rows in crowds}
        most = max(shortfalls.values(), default=0)
        self.assertEqual(len(left_out(table, found)), most, case)
        if not crowds:
            self.assertEqual((gone, found), ((), tuple(range(len(table)))), case)
        else:
            self.assertEqual(shortfalls[gone], most, case)
            self.assertTrue(all(set(gone) <= set(rows) for rows in crowds if shortfalls[rows] == most), case)

    def check_exchange(self, columns, table, some):
        keepable = all_keepable(columns, table, some)
        for few, many in product(keepable, repeat=2):
            if len(few) < len(many):
                row = exchange(columns, table, some, few, many)
                self.assertIs(type(row), int)
                self.assertTrue(row in many and row not in few, (columns, table, some, few, many, row))
                self.assertIn(tuple(sorted(few + (row,))), keepable, (columns, table, some, few, many, row))
            else:
                with self.assertRaises(InvalidRows):
                    exchange(columns, table, some, few, many)


class KeptTest(Cases):

    def test_example(self):
        table = ((5, None), (6, None), (7, 0))
        self.assertEqual([spared(MIXED, table, (1,)), len(greatest_kept(MIXED, table, (1,))),
                          is_keepable(MIXED, table, (1,), (0, 2))], [(0, 1, 2), 2, True])

    def test_table_without_rows(self):
        for some in all_sets(2):
            self.assertIs(is_keepable(MIXED, (), some, ()), True)
            self.assertEqual([greatest_kept(MIXED, (), some), kept_world(MIXED, (), some, ()), grown(MIXED, (), some, ()),
                              spared(MIXED, (), some)], [(), (), (), ()])
            with self.assertRaises(InvalidRows):
                exchange(MIXED, (), some, (), ())

    def test_no_rows_and_all_rows(self):
        for columns, table, some in list(each_small_case())[::7]:
            self.check_world(columns, table, some, (), True)
            self.assertEqual(kept_world(columns, table, some, ()), ())
            possible = is_possible(columns, table, some)
            self.check_world(columns, table, some, tuple(range(len(table))), possible)
            self.assertEqual(greatest_kept(columns, table, some) == tuple(range(len(table))), possible)

    def test_empty_set(self):
        table = ((5, 0), (6, 1), (None, None))
        self.assertEqual(len(greatest_kept(MIXED, table, ())), 1)
        self.assertEqual(spared(MIXED, table, ()), (0, 1, 2))
        self.assertEqual(spared(MIXED, table[:1], ()), ())
        for i in range(3):
            self.assertEqual(grown(MIXED, table, (), (i,)), (i,))
            self.assertEqual(exchange(MIXED, table, (), (), (i,)), i)
            self.assertIs(is_keepable(MIXED, table, (), (i,)), True)
        self.assertIs(is_keepable(MIXED, table, (), (1, 2)), False)

    def test_equal_rows(self):
        table = ((5, 0), (6, 1), (5, 0), (5, 0))
        self.assertEqual(spared(MIXED, table, (0, 1)), (0, 2, 3))
        self.assertEqual([grown(MIXED, table, (0, 1), (i,)) for i in (0, 2, 3)], [(0, 1), (1, 2), (1, 3)])
        self.assertIs(is_keepable(MIXED, table, (0, 1), (0, 3)), False)
        self.assertIsNone(kept_world(MIXED, table, (0, 1), (2, 3)))

    def test_open_columns(self):
        table = ((None, 0), (None, 0), (5, 0), (5, 0), (None, 1))
        self.assertEqual(spared(MIXED, table, (0,)), (2, 3))
        self.assertEqual(spared(MIXED, table, (0, 1)), (2, 3))
        self.assertEqual(spared(MIXED, table, (1,)), (0, 1, 2, 3))
        self.assertEqual(len(greatest_kept(MIXED, table, (0,))), 4)

    def test_chain(self):
        columns, table, some = CHAIN
        self.assertEqual(spared(columns, table, some), (0, 1, 2, 3, 4))
        for i in range(5):
            rows = tuple(left_out(table, (i,)))
            self.assertIs(is_keepable(columns, table, some, rows), True)
            self.assertEqual(grown(columns, table, some, rows), rows)
        self.check_rows(columns, table, some)
        self.check_exchange(columns, table, some)
        longer = table + ((0, 1, 1),)
        self.assertEqual(spared(columns, longer, some), (0, 1, 2, 3, 4))
        self.assertIn(5, greatest_kept(columns, longer, some))

    def test_several_crowds(self):
        columns, table = ((0, 1, 2), None), ((0, 4), (0, 4), (1, 4), (1, 4), (2, 4), (None, 4), (0, 4))
        self.assertEqual(len(greatest_kept(columns, table, (0,))), 3)
        self.assertEqual(spared(columns, table, (0,)), (0, 1, 2, 3, 4, 5, 6))
        table = ((0, 4), (0, 4), (1, 4), (1, 4), (2, 4), (0, 4))
        self.assertEqual(spared(columns, table, (0,)), (0, 1, 2, 3, 5))

    def test_a_world_has_the_rows_in_their_order(self):
        table = ((5, 1), (6, 0), (7, None), (8, None))
        self.assertEqual(kept_world(MIXED, table, (0,), (1, 3))[0], (6, 0))
        self.assertEqual(kept_world(MIXED, table, (1,), (0, 2)), ((5, 1), (7, 0)))
        self.assertEqual(kept_world(MIXED, table, (1,), (1, 2)), ((6, 0), (7, 1)))

    def test_small_tables(self):
        for columns, table, some in each_small_case():
            self.check_rows(columns, table, some)
            self.check_greatest(columns, table, some)

    def test_against_all_worlds(self):
        for columns, table, some in list(each_small_case())[::3]:
            for rows in all_rows(table):
                found = any(not equal_rows(world, some) for world in some_worlds(columns, alone(table, rows)))
                self.assertIs(is_keepable(columns, table, some, rows), found, (columns, table, some, rows))

    def test_drawn_tables(self):
        for columns, table, some in each_drawn_case(120, seed=51):
            self.check_rows(columns, table, some)
            self.check_greatest(columns, table, some)

    def test_small_exchanges(self):
        for columns, table, some in list(each_small_case())[::5]:
            self.check_exchange(columns, table, some)

    def test_drawn_exchanges(self):
        for columns, table, some in each_drawn_case(60, seed=52):
            self.check_exchange(columns, table[:5], some)


class RefusalsTest(unittest.TestCase):

    def refused(self, function, *arguments):
        with self.assertRaises(InvalidRows) as caught:
            function(*arguments)
        self.assertIs(type(caught.exception), InvalidRows)

    def test_no_rows_of_the_table(self):
        table = ((5, 0), (6, 0), (7, 0))
        wrong = WRONG_EVERYWHERE + [(3,), (0, 3), (1, 0), (2, 1, 0), (0, 0), (1, 1, 2), [0, 1], (False, True), (0, True),
                                    0, 1, ((0,),), (0, None), '0', ('0',)]
        for value in wrong:
            for function in (is_keepable, kept_world, grown):
                self.refused(function, MIXED, table, (0,), value)
            self.refused(exchange, MIXED, table, (0,), value, (0, 1))
            self.refused(exchange, MIXED, table, (0,), (), value)

    def test_not_keepable(self):
        table = ((5, 0), (5, 1), (5, None), (6, 1))
        self.refused(grown, MIXED, table, (0,), (0, 1))
        self.refused(grown, MIXED, table, (0,), (0, 1, 2, 3))
        self.refused(grown, MIXED, table, (1,), (0, 1, 2))
        self.refused(exchange, MIXED, table, (0,), (0, 1), (0, 1, 3))
        self.refused(exchange, MIXED, table, (0,), (0,), (0, 1))
        self.refused(exchange, MIXED, table, (0,), (0,), (1, 2, 3))
        self.refused(exchange, MIXED, table, (0,), (0, 2), (0, 3))
        # Only few are not keepable: many are, and are more.
        table = ((5, 0), (5, 1), (6, 1), (7, 1))
        self.refused(exchange, MIXED, table, (0,), (0, 1), (0, 2, 3))
        self.refused(exchange, MIXED, table, (0,), (0, 1), (1, 2, 3))

    def test_not_fewer(self):
        table = ((5, 0), (5, 1), (6, 1))
        for few, many in [((), ()), ((0,), (0,)), ((0,), (2,)), ((0, 2), (1, 2)), ((0, 2), (1,)), ((1,), ())]:
            self.refused(exchange, MIXED, table, (0,), few, many)
        self.assertEqual(exchange(MIXED, table, (0,), (0,), (1, 2)), 2)
        self.assertEqual(exchange(MIXED, table, (0,), (2,), (1, 2)), 1)


if __name__ == '__main__':
    unittest.main()
