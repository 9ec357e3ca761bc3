"""surekeys.several, and the third promise of point 3: either a world that keeps the demand, or a right tree."""

import random
import unittest
from itertools import product

from surekeys.crowds import is_possible
from surekeys.several import common_world, is_twin_tree, twin_tree
from surekeys.worlds import is_key, is_world
from tests.judges import tree_is_right
from tests.samples import (WRONG_EVERYWHERE, all_sets, all_tables, changed_somewhere, drawn_columns,
                           drawn_hard_case, drawn_set, drawn_table, keeps, some_worlds, unknown_count)

BITS = ((0, 1), (0, 1))
MIXED = (None, (0, 1))
# Each: columns, the most rows, and the entries of each column in the tables that are looked through.
SMALL = [
    (MIXED, 2, [(0, 5, None), (0, 1, None)]),
    (BITS, 3, [(0, None), (0, 1, None)]),
    ((None, (3,)), 3, [(0, 1, None), (3, None)]),
    ((None, None), 2, [(0, 3, None), (0, 3, None)]),
]


def demands(many):
    """All demands of no set, of one and of two (in both orders, and twice the same), and some larger ones."""
    sets = all_sets(many)
    larger = [tuple(sets), tuple(sets[-3:]), (sets[-1],) * 4, (sets[1], sets[-1], sets[1])]
    return [demand for count in range(3) for demand in product(sets, repeat=count)] + [d for d in larger if len(d) <= 4]


def drawn_cases(times, rows=(2, 3, 5), seed=3):
    draw = random.Random(seed)
    for _ in range(times):
        columns = drawn_columns(draw, draw.randint(1, 4))
        table = drawn_table(draw, columns, draw.choice(rows), draw.randint(0, 6))
        yield columns, table, tuple(drawn_set(draw, len(columns)) for _ in range(draw.randint(0, 4)))


def hard_cases(times, rows, seed):
    draw = random.Random(seed)
    for _ in range(times):
        yield drawn_hard_case(draw, draw.choice(rows))


class Cases(unittest.TestCase):

    def possible(self, columns, table, demand):
        self.assertIsNone(twin_tree(columns, table, demand), (columns, table, demand))
        world = common_world(columns, table, demand)
        self.assertIs(is_world(columns, table, world), True, (columns, table, demand, world))
        for some in demand:
            self.assertIs(is_key(columns, world, some), True, (columns, table, demand, world))

    def impossible(self, columns, table, demand):
        self.assertIsNone(common_world(columns, table, demand), (columns, table, demand))
        tree = twin_tree(columns, table, demand)
        self.assertTrue(tree_is_right(columns, table, demand, tree), (columns, table, demand, tree))
        self.assertIs(is_twin_tree(columns, table, demand, tree), True, (columns, table, demand, tree))

    def right(self, columns, table, demand, *trees):
        for tree in trees:
            self.assertIs(is_twin_tree(columns, table, demand, tree), True, tree)

    def wrong(self, columns, table, demand, *trees):
        for tree in trees:
            self.assertIs(is_twin_tree(columns, table, demand, tree), False, tree)


class WorldOrTreeTest(Cases):

    def test_example(self):
        self.assertEqual(common_world(BITS, ((None, 0), (0, None)), ((0,), (1,))), ((1, 0), (0, 1)))
        self.assertIsNone(twin_tree(BITS, ((None, 0), (0, None)), ((0,), (1,))))

    def test_no_set(self):
        for table in [(), ((None, None),), ((0, 0),) * 8, ((None, None),) * 3]:
            self.possible(BITS, table, ())
            self.possible(MIXED, table, ())

    def test_empty_set(self):
        self.possible(MIXED, (), ((), (0,)))
        self.possible(MIXED, ((None, None),), ((), ()))
        self.impossible(MIXED, ((5, None), (6, None)), ((0,), ()))

    def test_one_set_twice(self):
        self.possible(MIXED, ((5, None), (6, None)), ((1,), (1,)))
        self.impossible(MIXED, ((5, None), (6, None), (7, None)), ((1,), (1,)))

    def test_each_alone_but_not_all(self):
        # The first row needs 1 in column 0 for the first set, and then its entry in column 1 has to be 0 and 1.
        columns, table = ((0, 1), (0, 1), (0, 1)), ((None, 0, 0), (0, 0, 1), (1, 1, 0))
        self.possible(columns, table, ((0, 1),))
        self.possible(columns, table, ((0, 2),))
        self.impossible(columns, table, ((0, 1), (0, 2)))
        table = ((None, None, 0), (0, 0, 1), (1, 0, 0), (0, 1, 0))
        self.possible(columns, table, ((0, 1),))
        self.impossible(columns, table, ((0, 1), (0, 2)))

    def test_three_and_four_sets(self):
        columns = (None, (0, 1), (0, 1), (0, 1))
        table = ((5, None, None, None), (5, 0, 0, 0))
        self.possible(columns, table, ((1,), (2,), (3,)))
        self.possible(columns, table, ((0, 1), (0, 2), (0, 3), (1, 2, 3)))
        table = ((5, None, None, None), (5, 0, 0, 0), (5, 1, 0, 0))
        self.possible(columns, table, ((0, 1, 2), (0, 1, 3)))
        self.impossible(columns, table, ((0, 1, 2), (0, 1, 3), (0, 1)))
        columns = ((0, 1),) * 3
        table = ((None, None, 0), (0, 0, 1), (1, 1, 1), (0, 1, 0))
        sets = ((0, 1), (0, 2), (1, 2))
        for some in sets:
            self.possible(columns, table, (some,))
        self.possible(columns, table, sets[:2])
        self.impossible(columns, table + ((1, 0, 1),), sets)
        self.impossible(columns, table + ((1, 0, 1),), sets + sets[:1])

    def test_open_columns(self):
        self.possible((None,), ((None,), (None,), (0,), (1,), (10 ** 30 - 1,)), ((0,),))
        self.possible((None, None), ((None, None),) * 3, ((0,), (1,)))
        self.impossible((None, None), ((None, 4), (None, 4)), ((0,), (1,)))
        self.impossible(MIXED, ((None, None),) * 3, ((0,), (1,)))
        self.possible(MIXED, ((None, None), (None, 0), (None, None)), ((0,), (0, 1)))

    def test_values_stay_small(self):
        world = common_world((None,), ((10 ** 30,),) + ((None,),) * 6, ((0,),))
        self.assertTrue(all(entry <= 10 ** 31 for entry, in world))
        tree = twin_tree((None, (0, 1)), ((10 ** 30, 0), (None, 0)), ((0,), (1,)))
        self.assertTrue(tree_is_right((None, (0, 1)), ((10 ** 30, 0), (None, 0)), ((0,), (1,)), tree))

    def test_eight_rows_and_six_unknown_entries(self):
        columns = ((0, 1, 2), (0, 1, 2), None)
        table = tuple((None, 0, k) for k in range(6)) + ((0, 0, 6), (1, 1, 7))
        self.impossible(columns, table, ((0, 1),))
        self.impossible(columns, table, ((2,), (0, 1), (0, 1, 2)))
        self.possible(columns, table, ((2,), (0, 1, 2), (0, 2), (1, 2)))
        spread = tuple((None, k // 3, k) for k in range(6)) + ((0, 2, 6), (1, 2, 7))
        self.possible(columns, spread, ((0, 1), (2,)))
        self.impossible(columns, spread, ((0, 1), (1, 2), (0,)))

    def test_small_tables(self):
        for columns, most, entries in SMALL:
            for table in all_tables(columns, most, entries):
                worlds = list(some_worlds(columns, table))
                for demand in demands(len(columns)):
                    if any(keeps(world, demand) for world in worlds):
                        self.possible(columns, table, demand)
                    else:
                        self.impossible(columns, table, demand)

    def test_drawn_tables(self):
        for columns, table, demand in [*drawn_cases(200), *hard_cases(300, (2, 3, 5), 8)]:
            if unknown_count(table) > 4:
                continue
            if any(keeps(world, demand) for world in some_worlds(columns, table)):
                self.possible(columns, table, demand)
            else:
                self.impossible(columns, table, demand)

    def test_larger_drawn_tables(self):
        for columns, table, demand in [*drawn_cases(200, (6, 7, 8), 4), *hard_cases(400, (6, 7, 8), 9)]:
            world = common_world(columns, table, demand)
            self.assertEqual(twin_tree(columns, table, demand) is None, world is not None)
            if twin_tree(columns, table, demand) is None:
                self.possible(columns, table, demand)
            else:
                self.impossible(columns, table, demand)

    def test_one_set_is_a_possible_key(self):
        for columns, table, demand in [*drawn_cases(100, (4, 8), 5), *hard_cases(200, (4, 8), 10)]:
            for some in demand:
                self.assertEqual(common_world(columns, table, (some,)) is not None, is_possible(columns, table, some))


class IsTwinTreeTest(Cases):

    TABLE = ((0,), (None,), (1,))
    TREE = ('split', 1, 0, (('twins', 0, 1, 0), ('twins', 1, 2, 0)))

    def test_example(self):
        self.right(((0, 1),), self.TABLE, ((0,),), self.TREE)
        self.assertTrue(tree_is_right(((0, 1),), self.TABLE, ((0,),), self.TREE))

    def test_twins(self):
        table = ((5, 0), (6, 0), (5, 1), (5, None), (None, 0))
        demand = ((0,), (1,), (0, 1))
        self.right(MIXED, table, demand, ('twins', 0, 2, 0), ('twins', 0, 1, 1), ('twins', 1, 4, 1), ('twins', 2, 3, 0))
        self.wrong(MIXED, table, demand, ('twins', 2, 0, 0), ('twins', 0, 0, 0), ('twins', 0, 1, 0), ('twins', 0, 2, 1),
                   ('twins', 0, 2, 2), ('twins', 0, 2, 3), ('twins', 0, 5, 0), ('twins', 0, 4, 0), ('twins', -1, 2, 0),
                   ('twins', 2, 3, 1), ('twins', 2, 3, 2), ('twins', 3, 4, 0), ('twins', 0, 2, -1), ('twins', 0, 2, -3),
                   ('twin', 0, 2, 0), ('Twins', 0, 2, 0), ('twins', 0, 2), ('twins', 0, 2, 0, 0), ['twins', 0, 2, 0],
                   ('new', 0, 2, 0), ('split', 0, 2, 0), ('twins', False, 2, 0), ('twins', 0, 2, False),
                   ('twins', 0, True, 1), ('twins', (0, 2), 0), ('twins', '0', 2, 0), ('twins', None, 2, 0),
                   ('twins', (0,), 2, 0), ('twins', 0, [2], 0), ('twins', 0, 2, (0,)))

    def test_twins_in_the_empty_set(self):
        self.right(MIXED, ((5, None), (None, 0)), ((0,), ()), ('twins', 0, 1, 1))
        self.wrong(MIXED, ((5, None), (None, 0)), ((0,), ()), ('twins', 0, 1, 0))

    def test_unknown_entries_are_not_alike(self):
        self.wrong(((7,),), ((None,), (None,)), ((0,),), ('twins', 0, 1, 0))
        self.right(((7,),), ((None,), (None,)), ((0,),),
                   ('split', 0, 0, (('split', 1, 0, (('twins', 0, 1, 0),)),)),
                   ('split', 1, 0, (('split', 0, 0, (('twins', 0, 1, 0),)),)))

    def test_new(self):
        columns, table, demand = (None, (0, 1)), ((None, 0), (5, 0), (None, None)), ((0,), (1,))
        leaf = ('twins', 0, 1, 1)
        self.right(columns, table, demand, leaf, ('new', 0, 0, leaf), ('new', 2, 0, leaf),
                   ('new', 0, 0, ('new', 2, 0, leaf)), ('split', 2, 1, (leaf, ('new', 0, 0, leaf))))
        self.wrong(columns, table, demand, ('new', 1, 0, leaf), ('new', 2, 1, leaf), ('new', 0, 1, leaf),
                   ('new', 0, 0, ('new', 0, 0, leaf)), ('new', 0, 0, (leaf,)), ('new', 3, 0, leaf), ('new', 0, 2, leaf),
                   ('new', -1, 0, leaf), ('new', 0, -2, leaf), ('new', False, 0, leaf), ('new', 0, False, leaf),
                   ('new', 0, leaf), ('new', 0, 0, leaf, leaf), ['new', 0, 0, leaf], ('new', 0, 0, list(leaf)),
                   ('new', 0, 0, None), ('new', 0, 0, ()), ('New', 0, 0, leaf), ('split', 0, 0, (leaf,)),
                   ('split', 0, 0, leaf), ('split', 0, 0, (leaf, leaf)), ('new', '0', 0, leaf))

    def test_a_new_value_is_no_other_one(self):
        # The new values are 6 and then 7, or 0 and then 1: the rows are not alike.
        self.wrong((None,), ((None,), (5,), (None,)), ((0,),), ('new', 0, 0, ('new', 2, 0, ('twins', 0, 2, 0))),
                   ('new', 0, 0, ('twins', 0, 1, 0)), ('new', 0, 0, ('twins', 0, 2, 0)))
        self.wrong((None,), ((None,), (None,)), ((0,),), ('new', 0, 0, ('new', 1, 0, ('twins', 0, 1, 0))))

    def test_split(self):
        columns, demand = ((2, 4, 6), None), ((0,), (1,))
        table = ((2, 1), (4, 2), (6, 3), (None, 4))
        leaves = (('twins', 0, 3, 0), ('twins', 1, 3, 0), ('twins', 2, 3, 0))
        self.right(columns, table, demand, ('split', 3, 0, leaves))
        self.wrong(columns, table, demand, ('split', 3, 0, leaves[:2]), ('split', 3, 0, leaves + leaves[2:]),
                   ('split', 3, 0, leaves[::-1]), ('split', 3, 0, list(leaves)), ('split', 3, 0, leaves[0]),
                   ('split', 2, 0, leaves), ('split', 3, 1, leaves), ('new', 3, 0, leaves), ('new', 3, 0, leaves[0]),
                   ('split', 4, 0, leaves), ('split', -1, 0, leaves), ('split', 3, False, leaves),
                   ('split', 3, 0, leaves, ()), ('split', 3, 0), ('split', 3, 0, ()), ('split', 3, 0, None),
                   ('split', 3, 0, (leaves[0], leaves[0], leaves[0])), ('split', 3, 2, leaves), 'split',
                   ('split', 3, 0, (leaves[0], leaves[1], list(leaves[2]))), ('split', 3, 0, leaves[:2] + (None,)))

    def test_an_entry_that_was_split(self):
        table, leaf = ((0, None), (0, None)), ('twins', 0, 1, 0)
        self.right(BITS, table, ((0,),), ('split', 0, 1, (leaf, leaf)),
                   ('split', 0, 1, (('split', 1, 1, (leaf, leaf)), leaf)))
        self.wrong(BITS, table, ((0,),), ('split', 0, 1, (('split', 0, 1, (leaf, leaf)), leaf)),
                   ('split', 0, 0, (leaf, leaf)))

    def test_no_demand(self):
        self.wrong(BITS, ((0, 0), (0, 0)), (), ('twins', 0, 1, 0))
        self.wrong(BITS, (), ((),), ('twins', 0, 1, 0), ())

    def test_any_value(self):
        for value in WRONG_EVERYWHERE:
            self.wrong(BITS, ((None, 0), (0, 1)), ((0,), (1,)), value, ('split', 0, 0, value),
                       ('split', 0, 0, (value, value)), ('split', 0, 0, (('twins', 0, 1, value),) * 2),
                       ('new', 0, 0, value), (value, 0, 1, 0))
            self.wrong(MIXED, ((None, 0), (0, 1)), ((0,), (1,)), ('new', 0, 0, value), ('new', value, 0, value))

    def test_shared_parts_at_every_depth(self):
        tree = ('twins', 0, 1, 0)
        for _ in range(19):
            tree = ('split', 0, 0, (tree, tree, tree))
        self.wrong(((0, 1, 2),), ((None,), (None,)), ((0,),), tree)

    def test_changed_trees(self):
        others = [0, 1, 2, 3, -1, None, 'twins', 'new', 'split', 'x', (), (0,), [], ('twins', 0, 1, 0)]
        looked_at = 0
        for columns, table, demand in hard_cases(400, (2, 3, 5, 8), 6):
            tree = twin_tree(columns, table, demand)
            if tree is None or len(repr(tree)) > 400:
                continue
            looked_at += 1
            for changed in changed_somewhere(tree, others):
                expected = tree_is_right(columns, table, demand, changed)
                found = is_twin_tree(columns, table, demand, changed)
                self.assertIs(found, expected, (columns, table, demand, changed))
        self.assertGreater(looked_at, 50)


if __name__ == '__main__':
    unittest.main()
