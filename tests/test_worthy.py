"""surekeys.worthy: rows of the most worth, and the blocks of the rows that they leave out."""

import random
import unittest

from surekeys.errors import InvalidSet
from surekeys.faults import InvalidRows, InvalidWorths
from surekeys.kept import greatest_kept
from surekeys.worthy import blocks_of, most_worth
from tests.judges import all_keepable, all_rows, block_is_right, has_block, left_out
from tests.samples import WRONG_EVERYWHERE, all_sets, all_tables, drawn_close_case, drawn_worths, unknown_count

BIT = ((0, 1),)
MIXED = (None, (0, 1))
SMALL = [
    (MIXED, 3, [(0, None), (0, 1, None)]),
    (BIT, 4, [(0, 1, None)]),
    (((2, 4, 6), (3,)), 4, [(2, 6, None), (3,)]),
]


class Cases(unittest.TestCase):

    def check_blocks(self, columns, table, some, worths, rows):
        """blocks_of, against all crowds."""
        case = (columns, table, some, worths, rows)
        found = blocks_of(columns, table, some, worths, rows)
        out = left_out(table, rows)
        if rows in all_keepable(columns, table, some) and all(has_block(*case, i) for i in out):
            self.assertIs(type(found), tuple, case)
            self.assertTrue(all(type(pair) is tuple and len(pair) == 2 and type(pair[0]) is int for pair in found), case)
            self.assertEqual([i for i, _ in found], out, case)
            for i, block in found:
                self.assertTrue(block_is_right(*case, i, block), case + (i, block))
        else:
            self.assertIsNone(found, case)

    def check_most_worth(self, columns, table, some, worths):
        case = (columns, table, some, worths)
        found, keepable = most_worth(columns, table, some, worths), all_keepable(columns, table, some)
        self.assertIn(found, keepable, case)

        def worth(rows):
            return sum(worths[i] for i in rows)

        self.assertEqual(worth(found), max(map(worth, keepable)), case)
        self.assertEqual(len(found), len(greatest_kept(columns, table, some)), case)
        for least in sorted(set(worths) | {0}):
            counts = [sum(worths[i] >= least for i in rows) for rows in keepable]
            self.assertEqual(sum(worths[i] >= least for i in found), max(counts), case + (least,))
        self.assertFalse(any(set(found) < set(rows) for rows in keepable), case)
        self.check_blocks(*case, found)
        self.assertIsNotNone(blocks_of(*case, found), case)


class WorthyTest(Cases):

    def test_example(self):
        table = ((None,), (0,), (1,))
        self.assertEqual([most_worth(BIT, table, (0,), (1, 7, 3)), blocks_of(BIT, table, (0,), (1, 7, 3), (1, 2))],
                         [(1, 2), ((0, (0, 1, 2)),)])

    def test_table_without_rows(self):
        for some in all_sets(2):
            self.assertEqual(most_worth(MIXED, (), some, ()), ())
            self.assertEqual(blocks_of(MIXED, (), some, (), ()), ())

    def test_nothing_left_out(self):
        table = ((None, 0), (5, 1))
        self.assertEqual(most_worth(MIXED, table, (0,), (0, 0)), (0, 1))
        self.assertEqual(blocks_of(MIXED, table, (0,), (0, 0), (0, 1)), ())
        # A row with a part of its own has no block.
        self.assertIsNone(blocks_of(MIXED, table, (0,), (0, 0), (0,)))
        self.assertIsNone(blocks_of(MIXED, table, (0,), (0, 5), ()))

    def test_equal_rows(self):
        table = ((5, 0),) * 4
        self.assertEqual(most_worth(MIXED, table, (0, 1), (3, 8, 7, 8)) in ((1,), (3,)), True)
        self.assertEqual(blocks_of(MIXED, table, (0, 1), (3, 8, 7, 8), (1,)), ((0, (0, 1)), (2, (1, 2)), (3, (1, 3))))
        self.assertIsNone(blocks_of(MIXED, table, (0, 1), (3, 8, 7, 8), (2,)))
        self.assertIsNone(blocks_of(MIXED, table, (0, 1), (3, 8, 7, 8), ()))
        self.assertIsNone(blocks_of(MIXED, table, (0, 1), (3, 8, 7, 8), (1, 3)))

    def test_blocks_of_no_less_worth_only(self):
        # Rows 1 and 2 have the only two parts; row 0, which can have both, is worth more than row 2.
        table = ((None,), (0,), (1,))
        self.assertIsNone(blocks_of(BIT, table, (0,), (4, 7, 3), (1, 2)))
        self.assertEqual(blocks_of(BIT, table, (0,), (3, 7, 3), (1, 2)), ((0, (0, 1, 2)),))
        self.assertEqual(most_worth(BIT, table, (0,), (4, 7, 3)), (0, 1))
        self.assertEqual(most_worth(BIT, table, (0,), (4, 3, 7)), (0, 2))
        self.assertEqual(blocks_of(BIT, table, (0,), (4, 7, 3), (0, 1)), ((2, (0, 1, 2)),))

    def test_rows_without_worth_are_kept_too(self):
        self.assertEqual(most_worth(MIXED, ((5, 0), (6, 0), (None, 1)), (0,), (0, 0, 0)), (0, 1, 2))
        self.assertEqual(len(most_worth(BIT, ((0,), (0,), (None,)), (0,), (0, 0, 0))), 2)

    def test_great_worths(self):
        table = ((None,), (0,), (1,))
        for worths in [(10 ** 30, 10 ** 30 - 1, 10 ** 30 - 2), (0, 10 ** 30, 1), (10 ** 30,) * 3]:
            self.check_most_worth(BIT, table, (0,), worths)
        self.assertEqual(most_worth(BIT, table, (0,), (10 ** 30, 10 ** 30 - 1, 10 ** 30 - 2)), (0, 1))

    def test_small_tables(self):
        draw = random.Random(61)
        for columns, most, entries in SMALL:
            for table in all_tables(columns, most, entries):
                if unknown_count(table) <= 6:
                    for some in all_sets(len(columns)):
                        worths = drawn_worths(draw, len(table))
                        self.check_most_worth(columns, table, some, worths)
                        self.check_blocks(columns, table, some, worths, draw.choice(all_rows(table)))

    def test_drawn_tables(self):
        draw = random.Random(62)
        for _ in range(150):
            columns, table, some = drawn_close_case(draw)
            for worths in [drawn_worths(draw, len(table)), (0,) * len(table), (10 ** 30,) * len(table)]:
                self.check_most_worth(columns, table, some, worths)

    def test_blocks_of_drawn_rows(self):
        draw = random.Random(63)
        for _ in range(150):
            columns, table, some = drawn_close_case(draw)
            worths = drawn_worths(draw, len(table))
            keepable = all_keepable(columns, table, some)
            for rows in [draw.choice(all_rows(table)), draw.choice(keepable), keepable[-1], keepable[-2:][0],
                         tuple(range(len(table))), ()]:
                self.check_blocks(columns, table, some, worths, rows)

    def test_all_rows_of_some_tables(self):
        draw = random.Random(64)
        for _ in range(12):
            columns, table, some = drawn_close_case(draw)
            worths = drawn_worths(draw, len(table[:5]))
            for rows in all_rows(table[:5]):
                self.check_blocks(columns, table[:5], some, worths, rows)


class RefusalsTest(unittest.TestCase):

    def test_wrong_worths(self):
        table = ((5, 0), (6, 1))
        for worths in WRONG_EVERYWHERE + [(), (1,), (1, 2, 3), [1, 2], (1, -1), (-1, 0), (1, True), (False, 2), (1, None),
                                          (1, '2'), (1, [2]), 3, (1, (2,))]:
            for call in (lambda: most_worth(MIXED, table, (0,), worths),
                         lambda: blocks_of(MIXED, table, (0,), worths, (0,)),
                         lambda: blocks_of(MIXED, table, (0,), worths, None)):
                with self.assertRaises(InvalidWorths):
                    call()

    def test_wrong_rows(self):
        table = ((5, 0), (6, 1))
        for rows in WRONG_EVERYWHERE + [(2,), (1, 0), (0, 0), [0], (0, True), (False, 1), 0, (0, 1, 2)]:
            with self.assertRaises(InvalidRows):
                blocks_of(MIXED, table, (0,), (1, 2), rows)
            with self.assertRaises(InvalidWorths):
                blocks_of(MIXED, table, (0,), (1,), rows)
            with self.assertRaises(InvalidSet):
                blocks_of(MIXED, table, (2,), (1,), rows)


if __name__ == '__main__':
    unittest.main()
