"""surekeys.counts: how many worlds keep a demand, and count trees."""

import random
import unittest
from collections import Counter

from surekeys.counts import count_tree, kept_count, tree_number, value_counts
from surekeys.entries import barred
from surekeys.several import common_world
from surekeys.worlds import world_count
from tests.judges import count_tree_number, has_open_unknown, put
from tests.samples import (WRONG_EVERYWHERE, all_sets, all_tables, changed_somewhere, drawn_columns, drawn_hard_case,
                           drawn_set, drawn_table, keeps, some_worlds, unknown_count)

BIT = ((0, 1),)
BITS = ((0, 1), (0, 1))
MIXED = (None, (0, 1))
# The tree of the document's example: one branch without a world, one with all of its worlds.
TREE = ('split', 0, 0, (('twins', 0, 1, 0), ('sure',)))
TABLE = ((None, 0), (0, None))
SMALL = [
    (BIT, 4, [(0, 1, None)]),
    (BITS, 3, [(0, None), (0, 1, None)]),
    (MIXED, 2, [(0, 5, None), (0, 1, None)]),
    (((2, 4, 6), (3,)), 3, [(2, 6, None), (3, None)]),
]


def demands(many):
    """Demands of no set, with the empty set, with a set twice, and all of two different sets."""
    sets = all_sets(many)
    pairs = [(one, other) for one in sets for other in sets if one < other]
    return [()] + [(some,) for some in sets] + [(some, some) for some in sets] + pairs + [tuple(sets[:4])]


def each_small_case():
    for columns, most, entries in SMALL:
        for table in all_tables(columns, most, entries):
            if unknown_count(table) <= 6:
                for demand in demands(len(columns)):
                    yield columns, table, demand


def each_drawn_case(times, seed):
    """Mostly tables without unknown entries in open columns."""
    draw = random.Random(seed)
    for number in range(times):
        if number % 3:
            columns, table, demand = drawn_hard_case(draw, draw.choice((2, 3, 5, 8)))
        else:
            columns = drawn_columns(draw, draw.randint(1, 4))
            table = drawn_table(draw, columns, draw.choice((2, 4, 6)), draw.randint(0, 5))
            demand = tuple(drawn_set(draw, len(columns)) for _ in range(draw.randint(0, 3)))
        if draw.random() < 0.7:
            table = tuple(tuple(draw.choice((0, 6)) if entry is None and column is None else entry
                                for entry, column in zip(row, columns)) for row in table)
        yield columns, table, demand


class Cases(unittest.TestCase):

    def expected(self, columns, table, demand):
        """By all worlds; where there are endlessly many, by whether there is one."""
        worlds = [world for world in some_worlds(columns, table) if keeps(world, demand)]
        return None if worlds and has_open_unknown(columns, table) else len(worlds)

    def check_count(self, columns, table, demand):
        case = (columns, table, demand)
        expected = self.expected(*case)
        found = kept_count(*case)
        self.assertEqual((found, type(found)), (expected, type(expected)), case)
        self.assertEqual(found != 0, common_world(*case) is not None, case)
        tree = count_tree(*case)
        self.assertEqual(tree is None, has_open_unknown(columns, table), case)
        if tree is not None:
            self.assertEqual(count_tree_number(*case, tree), expected, case + (tree,))
            self.assertEqual(tree_number(*case, tree), expected, case + (tree,))
            self.assertIs(type(tree_number(*case, tree)), int)
        return expected

    def check_values(self, columns, table, demand):
        found = value_counts(columns, table, demand)
        places = [(i, k) for i, row in enumerate(table) for k, entry in enumerate(row) if entry is None]
        expected = [(i, k, value, self.expected(columns, put(table, i, k, value), demand))
                    for i, k in places if columns[k] is not None for value in columns[k]]
        self.assertEqual(found, expected, (columns, table, demand))
        self.assertIs(type(found), list)
        self.assertTrue(all(type(entry) is tuple for entry in found))
        for i, k in places:
            if columns[k] is not None:
                without = [value for row, column, value, number in found if (row, column, number) == (i, k, 0)]
                self.assertEqual(barred(columns, table, demand, i, k), without, (columns, table, demand, i, k))


class CountTest(Cases):

    def test_example(self):
        self.assertEqual([kept_count(BITS, TABLE, ((0, 1),)), value_counts(BITS, TABLE, ((0,),))],
                         [3, [(0, 0, 0, 0), (0, 0, 1, 2), (1, 1, 0, 1), (1, 1, 1, 1)]])

    def test_table_without_rows(self):
        for demand in demands(2):
            self.assertEqual(kept_count(BITS, (), demand), 1)
            self.assertEqual(kept_count(MIXED, (), demand), 1)
            self.assertEqual(tree_number(MIXED, (), demand, count_tree(MIXED, (), demand)), 1)
            self.assertEqual(value_counts(BITS, (), demand), [])

    def test_no_set(self):
        for table in [TABLE, ((None, None),) * 3, ((0, 0), (0, 0)), ((1, None),) * 4]:
            self.assertEqual(kept_count(BITS, table, ()), world_count(BITS, table))
            self.assertEqual(kept_count(BITS, table, ()), 2 ** unknown_count(table))
        self.assertIsNone(kept_count(MIXED, ((None, 0), (4, 0)), ()))

    def test_empty_set(self):
        self.assertEqual(kept_count(BITS, ((None, None),), ((),)), 4)
        self.assertEqual(kept_count(BITS, TABLE, ((0, 1), ())), 0)
        self.assertEqual(kept_count(MIXED, ((None, 0), (4, None)), ((),)), 0)
        self.assertIsNone(kept_count(MIXED, ((None, None),), ((),)))

    def test_a_set_twice(self):
        self.assertEqual(kept_count(BITS, TABLE, ((0, 1), (0, 1))), 3)
        self.assertEqual(kept_count(BITS, TABLE, ((0,), (0,), (1,))), 1)

    def test_endlessly_many(self):
        self.assertIsNone(kept_count(MIXED, ((None, 0), (5, 0)), ((0,),)))
        self.assertEqual(kept_count(MIXED, ((None, 0), (5, 0)), ((1,),)), 0)
        self.assertEqual(kept_count(MIXED, ((None, 0), (5, 0)), ((0,), (1,))), 0)
        # An unknown entry of an open column on which no set looks makes them endlessly many, too.
        self.assertIsNone(kept_count(MIXED, ((None, 0), (5, 1)), ((1,),)))
        self.assertEqual(value_counts(MIXED, ((None, None), (5, 0)), ((1,),)), [(0, 1, 0, 0), (0, 1, 1, None)])
        self.assertEqual(value_counts((None,), ((None,), (5,)), ((0,),)), [])

    def test_most_worlds(self):
        table = ((None, None, None), (None, None, None), (0, 1, 2))
        self.assertEqual(kept_count(((0, 1, 2),) * 3, table, ()), 729)
        self.assertEqual(kept_count(((0, 1, 2),) * 3, table, ((0, 1, 2),)), 26 * 25)
        self.assertEqual(kept_count(((0, 1, 2),) * 3, table, ((0,), (1,), (2,))), 8)

    def test_small_tables(self):
        for case in each_small_case():
            self.check_count(*case)
        for case in list(each_small_case())[::4]:
            self.check_values(*case)

    def test_drawn_tables(self):
        counted = Counter()
        for case in each_drawn_case(700, seed=101):
            expected = self.check_count(*case)
            counted['many' if expected and expected > 1 else expected] += 1
        for expected in (None, 0, 1, 'many'):
            self.assertGreater(counted[expected], 20, expected)
        for case in each_drawn_case(250, seed=102):
            self.check_values(*case)


class TreeTest(Cases):

    def tells(self, number, columns, table, demand, *values):
        for value in values:
            found = tree_number(columns, table, demand, value)
            self.assertEqual((found, type(found)), (number, type(number)), value)

    def test_example(self):
        self.tells(2, BITS, TABLE, ((0,),), TREE)

    def test_leaves(self):
        self.tells(0, BITS, ((0, 0), (0, 1), (0, 0)), ((0,), (0, 1)), ('twins', 0, 1, 0), ('twins', 0, 2, 1))
        self.tells(None, BITS, ((0, 0), (0, 1), (0, 0)), ((0,), (0, 1)), ('twins', 0, 1, 1), ('twins', 1, 0, 0), ('sure',),
                   ('twins', 0, 1, 2), ('twins', 0, 3, 0), ('twins', 0, 0, 0), ('twins', -1, 1, 0))
        self.tells(8, BITS, ((0, None), (1, None), (None, 0)), ((),) * 0, ('sure',))
        self.tells(4, BITS, ((0, None), (1, None)), ((0,), (0, 1)), ('sure',))
        self.tells(None, BITS, ((0, None), (1, None)), ((0,), (1,)), ('sure',))
        self.tells(1, BITS, (), ((), (0,)), ('sure',))

    def test_any_order_of_entries(self):
        sure, twins = ('sure',), ('twins', 0, 1, 0)
        table = ((None, None), (0, 0))
        right = [('split', 0, 0, (('split', 0, 1, (twins, sure)), sure)),
                 ('split', 0, 1, (('split', 0, 0, (twins, sure)), sure)),
                 ('split', 0, 1, (('split', 0, 0, (twins, sure)), ('split', 0, 0, (sure, sure)))),
                 ('split', 0, 0, (('split', 0, 1, (twins, sure)), ('split', 0, 1, (sure, sure))))]
        self.tells(3, BITS, table, ((0, 1),), *right)
        self.tells(None, BITS, table, ((0, 1),), sure, twins, ('split', 0, 0, (sure, sure)),
                   ('split', 0, 0, (('split', 0, 1, (twins, sure)), twins)), ('split', 0, 0, (twins, sure)),
                   ('split', 0, 0, (('split', 0, 0, (twins, sure)), sure)), ('split', 1, 0, (twins, sure)),
                   ('split', 0, 0, (right[0], sure)), ('split', 0, 0, (('split', 0, 1, (sure, sure)), sure)))

    def test_wrong(self):
        values = [
            list(TREE), TREE[:3], TREE + (0,), ('split', 0, 0, list(TREE[3])), ('split', False, 0, TREE[3]),
            ('split', 0, False, TREE[3]), ('split', 1, 0, TREE[3]), ('split', 0, 1, TREE[3]), ('split', 2, 0, TREE[3]),
            ('split', 0, 2, TREE[3]), ('split', -2, 0, TREE[3]), ('split', 0, 0, TREE[3][:1]), ('split', 0, 0, TREE[3] * 2),
            ('split', 0, 0, TREE[3][::-1]), ('split', 0, 0, ()), ('split', 0, 0, None), ('Split', 0, 0, TREE[3]),
            ('new', 0, 0, TREE[3]), ('new', 0, 0, TREE[3][1]), ('sure',), ('sure', 0), ['sure'], 'sure', (), ((),),
            ('split', 0, 0, (('twins', 0, 1, 0), 'sure')), ('split', 0, 0, (('twins', 0, 1, 0), ['sure'])),
            ('split', 0, 0, (('twins', 0, 1, 0), ('sure', 0))), ('split', 0, 0, (('twins', 0, True, 0), ('sure',))),
            ('split', 0, 0, (('twins', 0, 1, False), ('sure',))), ('split', 0, 0, (('twins', 0, 1, 0), None)),
            ('split', 0, 0, (('sure',), ('sure',))), ('split', 0, 0, (('twins', 0, 1, 0),) * 2), ('choose', 0, ()),
            (['sure'],),
        ]
        self.tells(None, BITS, TABLE, ((0,),), *values)
        self.tells(None, BITS, TABLE, ((0,),), *WRONG_EVERYWHERE)

    def test_open_columns(self):
        columns, demand = (None, (0, 1)), ((1,),)
        self.tells(2, columns, ((5, 0), (6, None)), (), ('sure',), ('split', 1, 1, (('sure',), ('sure',))))
        self.tells(1, columns, ((5, 0), (6, None)), demand, ('split', 1, 1, (('twins', 0, 1, 0), ('sure',))))
        # Nothing is a count tree where an entry of an open column is unknown.
        table = ((None, 0), (6, 0))
        self.tells(None, columns, table, (), ('sure',))
        self.tells(None, columns, table, demand, ('twins', 0, 1, 0), ('new', 0, 0, ('twins', 0, 1, 0)), ('sure',))
        self.tells(None, columns, ((5, 0), (None, None)), demand, ('split', 1, 1, (('twins', 0, 1, 0), ('sure',))))
        for some in all_sets(2):
            self.assertIsNone(count_tree(columns, table, (some,)))
        self.assertIsNone(count_tree(columns, table, ()))

    def test_changed_trees(self):
        draw = random.Random(103)
        counted = Counter()
        for columns, table, demand in each_drawn_case(250, seed=104):
            tree = count_tree(columns, table, demand)
            if tree is not None:
                others = [0, 1, 2, 4, -1, None, 'sure', ('sure',), (), [0], ('twins', 0, 1, 0)]
                changes = list(changed_somewhere(tree, others))
                for value in draw.sample(changes, min(40, len(changes))):
                    expected = count_tree_number(columns, table, demand, value)
                    self.tells(expected, columns, table, demand, value)
                    counted[expected is None] += 1
        self.assertGreater(min(counted[True], counted[False]), 30)


if __name__ == '__main__':
    unittest.main()
