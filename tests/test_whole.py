"""Points 1, 3 and 19 over the whole program: what one stage tells agrees with what every other stage tells."""

import random
import unittest
from collections import Counter

from surekeys.changes import changed, fewest_changes, prices, stuck_rows
from surekeys.counts import count_tree, kept_count, tree_number, value_counts
from surekeys.crowds import crowd, is_crowd, is_possible, key_world
from surekeys.desk import Desk
from surekeys.entries import barred, settled
from surekeys.errors import Impossible
from surekeys.finding import least_possible, least_sure
from surekeys.kept import exchange, greatest_kept, grown, is_keepable, kept_world, spared
from surekeys.meeting import is_sure, meeting_world, meetings
from surekeys.mender import Mender
from surekeys.several import common_world, twin_tree
from surekeys.worlds import world_count
from surekeys.worthy import blocks_of, most_worth
from tests.judges import has_open_unknown
from tests.samples import (all_sets, all_tables, drawn_close_case, drawn_columns, drawn_hard_case, drawn_table,
                           drawn_worths, known_places, unknown_count)

MIXED = (None, (0, 1))
BITS = ((0, 1), (0, 1))
SMALL = [(MIXED, 3, [(0, None), (0, 1, None)]), (BITS, 3, [(0, 1, None), (0, None)]), (((0, 1),), 4, [(0, 1, None)])]


def each_case(times, seed):
    """Columns and tables: all small ones, and drawn ones of three kinds."""
    for columns, most, entries in SMALL:
        for table in all_tables(columns, most, entries):
            if unknown_count(table) <= 6:
                yield columns, table
    draw = random.Random(seed)
    for number in range(times):
        if number % 3 == 0:
            yield drawn_close_case(draw)[:2]
        elif number % 3 == 1:
            yield drawn_hard_case(draw, draw.choice((3, 5, 8)))[:2]
        else:
            columns = drawn_columns(draw, draw.randint(1, 4))
            yield columns, drawn_table(draw, columns, draw.choice((2, 4, 8)), draw.randint(0, 6))


def taken_by_a_desk(columns, table, some):
    """Whether a desk takes all the rows behind the demand, and whether it takes the demand behind the rows."""
    found = []
    for demand_first in (True, False):
        desk = Desk(columns)
        try:
            if demand_first:
                desk.demand(some)
            for row in table:
                desk.put(row)
            if not demand_first:
                desk.demand(some)
            found.append(True)
        except Impossible:
            found.append(False)
    return found


class WholeTest(unittest.TestCase):

    def test_possible_keys(self):
        counted = Counter()
        for columns, table in each_case(400, seed=121):
            everything, worths = tuple(range(len(table))), (0,) * len(table)
            least = least_possible(columns, table)
            for some in all_sets(len(columns)):
                possible = is_possible(columns, table, some)
                mender = Mender(columns, some)
                for row in table:
                    mender.put(row, 3)
                tells = [
                    crowd(columns, table, some) is None, key_world(columns, table, some) is not None,
                    greatest_kept(columns, table, some) == everything, spared(columns, table, some) == (),
                    is_keepable(columns, table, some, everything),
                    kept_world(columns, table, some, everything) is not None,
                    grown(columns, table, some, ()) == everything,
                    most_worth(columns, table, some, worths) == everything,
                    blocks_of(columns, table, some, worths, everything) == (),
                    fewest_changes(columns, table, (), some) == (), kept_count(columns, table, (some,)) != 0,
                    fewest_changes(columns, table, known_places(table), some) == (),
                    stuck_rows(columns, table, known_places(table), some) is None,
                    prices(columns, table, known_places(table), some) is not None,
                    common_world(columns, table, (some,)) is not None, twin_tree(columns, table, (some,)) is None,
                    any(set(key) <= set(some) for key in least), mender.kept == mender.row_names,
                ] + taken_by_a_desk(columns, table, some)
                self.assertEqual(tells, [possible] * len(tells), (columns, table, some))
                counted[possible] += 1
        self.assertGreater(min(counted[True], counted[False]), 500)

    def test_sure_keys(self):
        for columns, table in each_case(300, seed=122):
            count = world_count(columns, table)
            least = least_sure(columns, table)
            for some in all_sets(len(columns)):
                sure = is_sure(columns, table, some)
                tells = [meeting_world(columns, table, some) is None, not meetings(columns, table, some),
                         any(set(key) <= set(some) for key in least)]
                if count is not None:
                    tells = tells + [kept_count(columns, table, (some,)) == count,
                                     tree_number(columns, table, (some,), ('sure',)) == count]
                self.assertEqual(tells, [sure] * len(tells), (columns, table, some))

    def test_counts_and_what_entries_can_be(self):
        draw = random.Random(123)
        for columns, table in each_case(300, seed=124):
            sets = all_sets(len(columns))
            demand = tuple(draw.choice(sets) for _ in range(draw.randint(0, 3)))
            case = (columns, table, demand)
            count, counts = kept_count(*case), value_counts(*case)
            self.assertEqual(count != 0, common_world(*case) is not None, case)
            self.assertEqual(count_tree(*case) is None, has_open_unknown(columns, table), case)
            if demand == ():
                self.assertEqual(count, world_count(columns, table))
            fixed = []
            for i, k in sorted({entry[:2] for entry in counts}):
                numbers = {value: number for row, column, value, number in counts if (row, column) == (i, k)}
                self.assertEqual(barred(columns, table, demand, i, k), [v for v in numbers if numbers[v] == 0], case)
                can_be = [value for value in numbers if numbers[value] != 0]
                if len(can_be) == 1:
                    fixed.append((i, k, can_be[0]))
                if count is not None:
                    self.assertEqual(sum(numbers.values()), count, case)
            self.assertEqual(settled(*case), fixed, case)

    def test_rows_that_are_left_out(self):
        draw = random.Random(125)
        counted = Counter()
        for columns, table in each_case(200, seed=126):
            some = draw.choice(all_sets(len(columns)))
            found = crowd(columns, table, some)
            kept = greatest_kept(columns, table, some)
            gone = spared(columns, table, some)
            out = [i for i in range(len(table)) if i not in kept]
            self.assertTrue(set(out) <= set(gone))
            if found is not None:
                self.assertIs(is_crowd(columns, table, some, gone), True)
                # Changes can make the left out rows fit, but then of each at least one entry.
                changes = fewest_changes(columns, table, (), some)
                if changes is not None:
                    self.assertGreaterEqual(len(changes), len(out))
                    self.assertIs(is_possible(columns, changed(columns, table, changes), some), True)
                self.assertIn(exchange(columns, table, some, (), kept), kept)
            worths = drawn_worths(draw, len(table))
            best = most_worth(columns, table, some, worths)
            self.assertEqual(len(best), len(kept))
            mender = Mender(columns, some)
            for row, worth in zip(table, worths):
                mender.put(row, worth)
            self.assertEqual(sum(worths[i] for i in mender.kept), sum(worths[i] for i in best))
            self.assertIsNotNone(blocks_of(columns, table, some, worths, mender.kept))
            counted[len(out) > 1] += 1
        self.assertGreater(min(counted[True], counted[False]), 50)


if __name__ == '__main__':
    unittest.main()
