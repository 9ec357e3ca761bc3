"""surekeys.changes: changes, the fewest of them, the rows that are stuck, and prices."""

import random
import unittest
from collections import Counter

from surekeys.changes import are_changes, are_prices, changed, fewest_changes, prices, stuck_rows
from surekeys.crowds import is_crowd, is_possible
from surekeys.faults import InvalidChanges
from tests.judges import (changes_are_right, held_is_right, least_paid, price_sum, prices_are_right,
                          stuck_rows_are_right)
from tests.samples import (WRONG_EVERYWHERE, all_sets, all_tables, changed_somewhere, drawn_close_case, drawn_columns,
                           drawn_held, drawn_set, drawn_table, known_places, unknown_count)

BIT = ((0, 1),)
BITS = ((0, 1), (0, 1))
MIXED = (None, (0, 1))
# The example of the document: four rows for the four targets of two columns.
SQUARE = ((0, 0), (0, 0), (0, 1), (1, 0))
SMALL = [
    (BIT, 4, [(0, 1, None)]),
    (BITS, 3, [(0, None), (0, 1)]),
    ((None,), 3, [(0, 5, None)]),
    (MIXED, 2, [(0, 5, None), (0, 1, None)]),
    (((2, 4, 6), (3,)), 3, [(2, 6, None), (3,)]),
]


def each_small_case(seed):
    """Columns, a table, held entries and a set, for all small tables and all sets."""
    draw = random.Random(seed)
    for columns, most, entries in SMALL:
        for table in all_tables(columns, most, entries):
            if unknown_count(table) <= 6:
                for some in all_sets(len(columns)):
                    yield columns, table, drawn_held(draw, table), some


def each_drawn_case(times, seed, most=8):
    """Half of the cases with rows that share parts in closed columns, half with more open columns."""
    draw = random.Random(seed)
    for number in range(times):
        if number % 2:
            columns, table, some = drawn_close_case(draw)
        else:
            columns = drawn_columns(draw, draw.randint(1, 4))
            table = drawn_table(draw, columns, draw.choice((2, 3, 5, 8)), draw.choice((0, 1, 3, 6)))
            some = drawn_set(draw, len(columns))
        table = table[:most]
        yield columns, table, drawn_held(draw, table), some


class Cases(unittest.TestCase):

    def check(self, columns, table, held, some):
        """Either right changes and right prices that come to their number, or right stuck rows.

        By point 26 changes are never fewer than what right prices come to, so there are none fewer.
        """
        case = (columns, table, held, some)
        found, shown, stuck = fewest_changes(*case), prices(*case), stuck_rows(*case)
        self.assertEqual([found is None, shown is None], [stuck is not None] * 2, case)
        if stuck is not None:
            self.assertTrue(stuck_rows_are_right(*case, stuck), case + (stuck,))
            if held == known_places(table):
                self.assertIs(is_crowd(columns, table, some, stuck), True, case)
            return None
        self.assertTrue(changes_are_right(columns, table, held, found), case + (found,))
        self.assertIs(are_changes(columns, table, held, found), True, case)
        self.assertIs(is_possible(columns, changed(columns, table, found), some), True, case + (found,))
        self.assertTrue(prices_are_right(*case, shown), case + (shown,))
        self.assertIs(are_prices(*case, shown), True, case + (shown,))
        self.assertEqual(price_sum(shown), len(found), case + (shown, found))
        return len(found)


class ChangesTest(Cases):

    def right(self, columns, table, held, *values):
        for value in values:
            self.assertIs(are_changes(columns, table, held, value), True, value)

    def wrong(self, columns, table, held, *values):
        for value in values:
            self.assertIs(are_changes(columns, table, held, value), False, value)

    def not_changed(self, columns, table, *values):
        for value in values:
            with self.assertRaises(InvalidChanges) as caught:
                changed(columns, table, value)
            self.assertIs(type(caught.exception), InvalidChanges)

    def test_right(self):
        table = ((5, 0), (5, None), (None, 1))
        self.right(MIXED, table, (), (), ((0, 0, 6),), ((0, 1, 1),), ((0, 0, 0), (0, 1, 1), (1, 0, 10 ** 30), (2, 1, 0)))
        self.right(MIXED, table, ((0, 0),), (), ((0, 1, 1),), ((0, 1, 1), (1, 0, 7)))
        self.right(MIXED, (), (), ())

    def test_held(self):
        table = ((5, 0), (5, None), (None, 1))
        self.wrong(MIXED, table, ((0, 0),), ((0, 0, 6),), ((0, 0, 6), (0, 1, 1)), ((0, 0, 5),))
        self.wrong(MIXED, table, ((0, 0), (0, 1), (1, 0), (2, 1)), ((0, 0, 6),), ((1, 0, 6),), ((2, 1, 0),))
        self.right(MIXED, table, ((0, 0), (0, 1), (1, 0), (2, 1)), ())

    def test_wrong(self):
        table = ((5, 0), (5, None), (None, 1))
        values = [
            ((1, 1, 0),), ((2, 0, 5),), ((0, 0, 5),), ((0, 1, 0),), ((0, 1, 2),), ((0, 1, None),), ((0, 0, None),),
            ((0, 0, -1),), ((0, 0, 6), (0, 0, 7)), ((0, 0, 7), (0, 0, 6)), ((0, 0, 6), (0, 0, 6)),
            ((0, 1, 1), (0, 0, 6)), ((1, 0, 6), (0, 0, 6)), ((3, 0, 6),), ((0, 2, 6),), ((-1, 0, 6),), ((0, -1, 1),),
            [(0, 0, 6)], ([0, 0, 6],), ((0, 0),), ((0, 0, 6, 7),), ((),), (0, 0, 6), ((False, 0, 6),), ((0, False, 6),),
            ((0, 1, True),), ((1, 0, False),), (('0', 0, 6),), ((0, 0, '6'),), ((0, 0, (6,)),), (((0, 0), 6),), 6, '006',
            ((None, 0, 6),), ((0, (0,), 6),), ((0, 0, [6]),), (0,), ('0',), ((0, 0, 6), None),
        ]
        self.wrong(MIXED, table, (), *values)
        self.wrong(MIXED, table, (), *WRONG_EVERYWHERE)
        self.not_changed(MIXED, table, *values)
        self.not_changed(MIXED, table, *WRONG_EVERYWHERE)

    def test_changed(self):
        table = ((5, 0), (5, None), (None, 1))
        self.assertEqual(changed(MIXED, table, ()), table)
        self.assertEqual(changed(MIXED, table, ((0, 1, 1),)), ((5, 1), (5, None), (None, 1)))
        self.assertEqual(changed(MIXED, table, ((0, 0, 0), (0, 1, 1), (1, 0, 8), (2, 1, 0))),
                         ((0, 1), (8, None), (None, 0)))
        self.assertEqual(changed(MIXED, (), ()), ())

    def test_changed_values_of_changes(self):
        draw = random.Random(81)
        counted = Counter()
        others = [0, 1, 2, 6, -1, None, '0', (), (0, 0, 6), [1], True]
        for columns, table, held, some in each_drawn_case(150, seed=82):
            found = fewest_changes(columns, table, held, some) or ()
            changes = list(changed_somewhere(found, others))
            for value in draw.sample(changes, min(20, len(changes))) + [found]:
                for fixed in ((), held):
                    expected = changes_are_right(columns, table, fixed, value)
                    self.assertIs(are_changes(columns, table, fixed, value), expected, (columns, table, fixed, value))
                    counted[expected] += 1
                if changes_are_right(columns, table, (), value):
                    after = [list(row) for row in table]
                    for i, k, entry in value:
                        after[i][k] = entry
                    self.assertEqual(changed(columns, table, value), tuple(map(tuple, after)))
                else:
                    self.not_changed(columns, table, value)
        self.assertGreater(min(counted[True], counted[False]), 100)


class FewestChangesTest(Cases):

    def test_example(self):
        found = [len(fewest_changes(BITS, SQUARE, (), (0, 1))), fewest_changes(BITS, SQUARE, (), (0,)),
                 stuck_rows(BITS, SQUARE, ((0, 0), (1, 0), (2, 0)), (0, 1))]
        self.assertEqual(found, [2, None, (0, 1, 2)])

    def test_few_rows(self):
        for some in all_sets(2):
            for table in [(), ((5, 0),), ((None, None),)]:
                self.assertEqual(fewest_changes(MIXED, table, (), some), ())
                self.assertEqual(prices(MIXED, table, (), some), ((0,) * len(table), ()))
                self.assertIsNone(stuck_rows(MIXED, table, (), some))

    def test_empty_set(self):
        table = ((5, 0), (6, 1), (None, 0))
        self.assertIsNone(fewest_changes(MIXED, table, (), ()))
        self.assertIsNone(prices(MIXED, table, (), ()))
        self.assertGreaterEqual(len(stuck_rows(MIXED, table, (), ())), 2)
        self.assertEqual(self.check(MIXED, table[:1], (), ()), 0)

    def test_nothing_to_change(self):
        for columns, table, held, some in each_small_case(seed=83):
            if is_possible(columns, table, some):
                self.assertEqual(fewest_changes(columns, table, held, some), ())
                self.assertIsNone(stuck_rows(columns, table, held, some))

    def test_held_entries(self):
        table = ((5, 0), (5, 0))
        self.assertEqual(self.check(MIXED, table, (), (0, 1)), 1)
        self.assertEqual(self.check(MIXED, table, ((0, 0), (1, 0)), (0, 1)), 1)
        self.assertEqual(self.check(MIXED, table, ((0, 0), (0, 1), (1, 1)), (0, 1)), 1)
        self.assertIsNone(self.check(MIXED, table, ((0, 0), (0, 1), (1, 0), (1, 1)), (0, 1)))
        self.assertIsNone(self.check(MIXED, table, ((0, 0), (1, 0)), (0,)))
        self.assertEqual(self.check(MIXED, table, ((0, 0), (1, 0)), (1,)), 1)
        # A held entry of another column is no matter.
        self.assertEqual(self.check(MIXED, table, ((0, 1), (1, 1)), (0,)), 1)

    def test_open_columns_need_new_values(self):
        table = ((5,),) * 4
        found = fewest_changes((None,), table, (), (0,))
        self.assertEqual(len({value for _, _, value in found} | {5}), 4)
        self.assertEqual(self.check((None,), table, (), (0,)), 3)
        self.assertEqual(self.check((None,), table, ((0, 0),), (0,)), 3)
        self.assertIsNone(self.check((None,), table, ((0, 0), (3, 0)), (0,)))
        self.assertEqual(self.check((None,), ((5,), (5,), (None,), (None,)), ((0, 0),), (0,)), 1)
        self.assertEqual(self.check((None, None), ((5, 6),) * 3, ((0, 0), (1, 0), (2, 0)), (0, 1)), 2)
        self.assertEqual(self.check((None,), ((10 ** 30 - 1,),) * 2, (), (0,)), 1)

    def test_chains_of_changes(self):
        # The second row can only have the first one's target, if this one and all behind it move on.
        table = ((0, 0), (0, 0), (0, 1), (1, 1))
        held = ((0, 0), (0, 1), (1, 0), (2, 1), (3, 0))
        self.assertEqual(fewest_changes(BITS, table, held, (0, 1)), ((1, 1, 1), (2, 0, 1), (3, 1, 0)))
        self.assertEqual(self.check(BITS, table, held, (0, 1)), 3)
        self.assertEqual(self.check(BITS, table, (), (0, 1)), 1)

    def test_eight_rows(self):
        columns = ((0, 1), (0, 1), (0, 1))
        self.assertEqual(self.check(columns, ((0, 0, 0),) * 8, (), (0, 1, 2)), 12)
        self.assertIsNone(self.check(columns, ((0, 0, 0),) * 8, ((5, 1),) + ((7, 0),), (0, 1)))
        self.assertEqual(self.check(columns, ((0, 0, 0),) * 7 + ((0, 0, None),), (), (0, 1, 2)), 11)
        self.assertEqual(self.check(((0, 1, 2),) * 4, ((1, 1, 1, 1),) * 8, (), (0, 1, 2, 3)), 7)
        self.assertEqual(self.check((None,) * 4, ((1, 1, 1, 1),) * 8, (), (0, 1, 2, 3)), 7)
        held = tuple((i, k) for i in range(8) for k in (0, 1))
        self.assertEqual(self.check((None, None, (0, 1, 2), (0, 1, 2)), ((1, 1, 1, 1),) * 8, held, (0, 1, 2, 3)), 10)

    def test_against_all_ways_in_small_tables(self):
        for case in each_small_case(seed=84):
            self.assertEqual(self.check(*case), least_paid(*case), case)

    def test_against_all_ways_in_drawn_tables(self):
        counted = Counter()
        for case in each_drawn_case(1500, seed=85, most=4):
            expected = least_paid(*case)
            self.assertEqual(self.check(*case), expected, case)
            counted[expected] += 1
        for expected in (None, 0, 1, 2):
            self.assertGreater(counted[expected], 4, expected)

    def test_drawn_tables(self):
        counted = Counter(self.check(*case) for case in each_drawn_case(3000, seed=86))
        for expected in (None, 0, 1, 2, 3, 4):
            self.assertGreater(counted[expected], 10, expected)

    def test_a_whole_column_and_all_held(self):
        for columns, table, _, some in each_drawn_case(200, seed=87):
            places = known_places(table)
            self.check(columns, table, places, some)
            for column in range(len(columns)):
                self.check(columns, table, tuple((i, k) for i, k in places if k == column), some)

    def test_values_stay_small(self):
        found = fewest_changes((None, None), ((10 ** 30,) * 2,) * 8, (), (0, 1))
        self.assertTrue(all(value < 10 ** 31 for _, _, value in found))


class PricesTest(Cases):

    def right(self, case, *values):
        for value in values:
            self.assertIs(are_prices(*case, value), True, case + (value,))

    def wrong(self, case, *values):
        for value in values:
            self.assertIs(are_prices(*case, value), False, case + (value,))

    def test_example(self):
        case = (BITS, SQUARE, (), (0, 1))
        value = ((2, 2, 1, 1), (((0, 0), 2), ((0, 1), 1), ((1, 0), 1)))
        self.right(case, value)
        self.wrong(case, ((1, 0, 0, 0), ()))

    def test_numbers(self):
        case = (BITS, SQUARE, (), (0, 1))
        self.right(case, ((0, 0, 0, 0), ()), ((-1, -5, 0, -(10 ** 30)), ()), ((1, 1, 0, 0), (((0, 0), 1),)))
        self.wrong(case, ((0, 0, 0, 1), ()), ((0, 0, 0), ()), ((0,) * 5, ()), ((0, 0, 0, False), ()), ((0, 0, 0, None), ()),
                   ((0, 0, 0, '0'), ()), ((0, 0, 0, (0,)), ()), ([0, 0, 0, 0], ()), ((), ()), (0, ()), (None, ()))

    def test_targets(self):
        case, numbers = (BITS, SQUARE, (), (0, 1)), (1, 1, 0, 0)
        self.right(case, (numbers, (((0, 0), 1),)), (numbers, (((0, 0), 7), ((0, 1), 10 ** 30), ((1, 0), 1), ((1, 1), 3))))
        for listed in [(), (((0, 1), 1),), (((0, 0), 0),), (((0, 0), -1),), (((0, 0), True),), (((0, 0), None),),
                       (((0, 0), 1), ((0, 0), 1)), (((0, 0), 1), ((0, 0), 2)), (((0, 1), 1), ((0, 0), 1)), [((0, 0), 1)],
                       ([(0, 0), 1],), (([0, 0], 1),), (((0, 0), 1, 1),), (((0, 0),),), ((0, 0), 1), (((0, 0), '1'),),
                       (((0, False), 1),), (((0, 0), 1), ((0, 2), 1)), (((0, 0), 1), ((2, 0), 1)), (((0,), 1),),
                       (((0, 0, 0), 1),), (((None, 0), 1),), (((0, 0), 1), None), (((0, 0), 1), ((-1, 0), 1)),
                       (((0, 0), 1), ((1, 0), 0)), (((0, 0), 1), ((0, '1'), 1)), (((0, 0), 1), 0), None, 0, 'x', (0,)]:
            self.wrong(case, (numbers, listed))

    def test_all_kinds_of_values(self):
        for case in [(BITS, SQUARE, (), (0, 1)), (BITS, SQUARE, (), ()), (MIXED, (), (), (0,)),
                     ((None,), ((5,),), (), (0,))]:
            self.wrong(case, *WRONG_EVERYWHERE)
            self.wrong(case, (), ((),), ((), (), ()), [(), ()], ('', ''))

    def test_only_targets_that_are_reached(self):
        # Row 1 pays nothing for its own target only; the others it does not reach.
        self.right((BIT, ((0,), (1,)), ((1, 0),), (0,)), ((1, 9), (((0,), 1), ((1,), 9))))
        self.wrong((BIT, ((0,), (1,)), (), (0,)), ((1, 9), (((0,), 1), ((1,), 9))))
        self.wrong((BIT, ((0,), (1,)), ((1, 0),), (0,)), ((1, 9), (((0,), 1), ((1,), 8))))
        self.wrong((BIT, ((0,), (1,)), ((1, 0),), (0,)), ((2, 9), (((0,), 1), ((1,), 9))))

    def test_endlessly_many_targets(self):
        case = ((None,), ((5,), (5,), (None,)), (), (0,))
        self.right(case, ((1, 1, 0), (((5,), 1),)), ((1, 1, 0), (((5,), 1), ((6,), 4), ((7,), 9))))
        self.wrong(case, ((2, 1, 0), (((5,), 2), ((6,), 4), ((7,), 9))), ((1, 1, 1), (((5,), 9), ((6,), 9))),
                   ((1, 0, 0), ()), ((0, 0, 1), ()))
        case = ((None,), ((5,), (5,), (None,)), ((0, 0),), (0,))
        self.right(case, ((9, 1, 0), (((5,), 9),)))
        self.wrong(case, ((9, 2, 0), (((5,), 9), ((6,), 1))), ((9, 1, 0), (((5,), 8),)))
        # A row with an unknown entry in an open column has new targets for nothing, whatever else it has.
        case = ((None, None), ((5, None), (5, 6)), (), (0, 1))
        self.wrong(case, ((1, 0), (((5, 0), 3), ((5, 6), 3), ((5, 7), 3))))
        self.right(case, ((0, 1), (((5, 6), 1),)))
        # Listed values that no row has, among them the next ones, do not make a new target dearer.
        case = ((None,), ((5,),), (), (0,))
        for listed in range(1, 12):
            targets = tuple(((value,), 4) for value in range(listed))
            self.assertIs(are_prices(*case, ((1,), targets)), listed > 5)
            self.wrong(case, ((2,), targets))

    def test_targets_of_the_empty_set(self):
        self.right((MIXED, (), (), ()), ((), ()), ((), (((), 4),)))
        self.right((MIXED, ((5, 0), (6, 1)), (), ()), ((0, 0), ()), ((4, 3), (((), 4),)))
        self.wrong((MIXED, ((5, 0), (6, 1)), (), ()), ((1, 0), ()), ((4, 5), (((), 4),)), ((0, 0), (((0,), 4),)))

    def test_prices_that_come_to_less(self):
        case = (BITS, SQUARE, (), (0, 1))
        for value in [((0,) * 4, ()), ((1, 1, 0, 0), (((0, 0), 1),)), ((-3, 0, 0, 0), (((1, 1), 7),))]:
            self.right(case, value)
            self.assertLess(price_sum(value), 2)

    def test_changed_prices(self):
        draw = random.Random(91)
        counted = Counter()
        others = [0, 1, 2, 3, -1, None, '1', (), (0,), [1], True]
        for columns, table, held, some in each_drawn_case(500, seed=92):
            found = prices(columns, table, held, some) or ((0,) * len(table), ())
            few_more = [(tuple(n + draw.choice((0, 0, 1, -1)) for n in found[0]), found[1]) for _ in range(4)]
            changes = list(changed_somewhere(found, others))
            for value in draw.sample(changes, min(25, len(changes))) + few_more:
                expected = prices_are_right(columns, table, held, some, value)
                self.assertIs(are_prices(columns, table, held, some, value), expected, (columns, table, held, some, value))
                counted[expected] += 1
        self.assertGreater(min(counted[True], counted[False]), 300)

    def test_drawn_prices(self):
        draw = random.Random(93)
        counted = Counter()
        for columns, table, held, some in each_drawn_case(1500, seed=94, most=3):
            pool = [tuple(draw.choice(columns[k] or (0, 6, 7, 8)) for k in some) for _ in range(draw.randint(0, 6))]
            listed = tuple((target, draw.randint(1, 3)) for target in sorted(set(pool)))
            for _ in range(3):
                value = (tuple(draw.choice((0, 0, 1, 2)) for _ in table), listed)
                expected = prices_are_right(columns, table, held, some, value)
                self.assertIs(are_prices(columns, table, held, some, value), expected, (columns, table, held, some, value))
                counted[expected] += 1
        self.assertGreater(min(counted[True], counted[False]), 200)

    def test_no_fewer_changes_than_prices_come_to(self):
        draw = random.Random(95)
        for columns, table, held, some in each_drawn_case(500, seed=96, most=4):
            least = least_paid(columns, table, held, some)
            found = prices(columns, table, held, some)
            for _ in range(5 if found else 0):
                value = (tuple(n + draw.choice((0, 1, -1)) for n in found[0]), found[1][:draw.randint(0, 3)])
                if are_prices(columns, table, held, some, value):
                    self.assertLessEqual(price_sum(value), least)

    def test_held_of_the_samples_is_right(self):
        for columns, table, held, _ in each_drawn_case(50, seed=97):
            self.assertTrue(held_is_right(table, held))


if __name__ == '__main__':
    unittest.main()
