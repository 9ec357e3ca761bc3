"""surekeys.exact, and the fifth promise of point 3: either a table that has just the keys, or a choice tree."""

import unittest

from surekeys.bars import bars
from surekeys.errors import InvalidSet
from surekeys.exact import choice_tree, choices, exact, is_choice_tree, is_exact
from tests.judges import (choice_tree_is_right, choices_by_definition, offered_tree_is_right, offers_by_definition,
                          ruled_table_is_right, table_has_just_the_keys)
from tests.samples import (WRONG_EVERYWHERE, all_rules_of_two_columns, all_sets, changed_somewhere, each_drawn_rules,
                           each_harsh_rules)

RULES = ((0,), ((0, 1),), ((0, 2),))
# Neither column alone is a sure key, but both are possible ones: each bar has an unknown entry.
IMPOSSIBLE = ((), ((0, 1),), ((0,), (1,)))
TREE = ('choose', 0, (('choose', 1, (('clash', (0, 1), (1, 1)),)),))
# Rules for which no table has just the keys, with the number of their columns; their trees have 2 to 4 bars one below
# the other, and up to 6 choices for a bar.
WITHOUT_TABLE = [
    (2, IMPOSSIBLE),
    (3, ((), ((1, 2), (0, 1)), ((1,), (2,), (1, 2), (0, 1), (0, 2)))),
    (3, ((), ((0, 2), (1, 2)), ((1,), (0,), (2,), (1, 2), (0, 1)))),
    (3, ((), ((1, 2), (0, 2), (0, 1)), ((2,), (0, 2), (1,), (0, 1, 2), (1, 2), (0, 1)))),
    (4, ((), ((1, 3), (0, 3), (1, 2)), ((0, 2), (1,), (0, 1, 2), (0,), (2,)))),
    (4, ((), ((1, 2), (0, 1)), ((0, 2), (0, 2, 3), (1,), (2, 3), (0, 1), (1, 2)))),
    (4, ((), ((1, 3), (0, 3)), ((2,), (0, 1), (0, 3), (3,)))),
    (4, ((), ((0, 1), (0, 2)), ((0,), (1, 2), (0, 2), (2, 3), (1, 3)))),
    (4, ((), ((2, 3), (0, 3), (0, 1), (1, 3)), ((2, 3), (1, 3), (0, 3), (3,), (0, 2), (1, 2)))),
    (4, ((), ((2, 3), (0, 1), (0, 3), (1, 2), (0, 2), (1, 3)), ((0, 1, 3), (0, 2, 3), (0, 1), (0,), (3,)))),
    (4, ((), ((1, 2), (0, 3)), ((1, 3), (0, 2), (0, 3), (1, 2, 3), (2, 3), (0, 1)))),
    (4, ((), ((0, 1, 2), (0, 2, 3), (0, 1, 3)), ((0, 3), (0, 1, 2), (0,), (2,), (3,), (1,)))),
]


class ChoicesTest(unittest.TestCase):

    def test_example(self):
        self.assertEqual(choices(3, RULES, (0, 2)), [((), (2,))])

    def test_nothing_unknown(self):
        self.assertEqual(choices(3, RULES, (1, 2)), [((), ())])
        self.assertEqual(choices(2, ((), ((0,), (1,)), ()), ()), [((), ())])
        self.assertEqual(choices(3, ((), (), ()), (0, 1, 2)), [((), ())])

    def test_several_columns(self):
        rules = ((), ((0, 1, 2, 3),), ((0, 3), (1,)))
        self.assertEqual(choices(4, rules, (0, 1, 2)), [((), (1,))])
        self.assertEqual(choices(4, rules, (0, 1, 3)),
                         [((), (0, 1)), ((), (1, 3)), ((0,), (1,)), ((1,), (3,))])
        self.assertEqual(choices(4, rules, (0, 2, 3)), [((), (0,)), ((), (3,))])
        rules = ((), ((0, 1, 2, 3),), ((0,), (1,), (2,)))
        self.assertEqual(choices(4, rules, (0, 1, 2)),
                         [((), (0, 1, 2)), ((0,), (1, 2)), ((0, 1), (2,)), ((0, 2), (1,))])

    def test_known_columns(self):
        rules = ((0,), ((0, 1, 2),), ((0, 1), (1,)))
        self.assertEqual(choices(3, rules, (0, 1)), [((), (1,))])
        rules = ((0,), ((0, 1, 2),), ((0, 1), (0, 2)))
        self.assertEqual(choices(3, rules, (0, 1)), [((), (1,))])
        rules = ((0,), (), ((0, 1), (0, 2), (1, 2)))
        self.assertEqual(choices(3, rules, (0, 1, 2)), [((), (1, 2)), ((1,), (2,))])

    def check(self, many, rules):
        found = bars(many, rules, 'sure')
        for some in all_sets(many):
            if some in found:
                expected = choices_by_definition(many, rules, some)
                self.assertEqual(choices(many, rules, some), expected, (many, rules, some))
                self.assertTrue(expected)
                self.assertIsNot(choices(many, rules, some), choices(many, rules, some))
            else:
                with self.assertRaises(InvalidSet):
                    choices(many, rules, some)

    def test_all_rules_of_two_columns(self):
        for rules in all_rules_of_two_columns():
            self.check(2, rules)

    def test_drawn_rules(self):
        for many, rules in each_drawn_rules(500, seed=31):
            self.check(many, rules)

    def test_no_set(self):
        for value in WRONG_EVERYWHERE + [(3,), (2, 0), (0, 0), [0, 2], 0, 2]:
            with self.assertRaises(InvalidSet):
                choices(3, RULES, value)

    def test_bars_of_possible_only(self):
        rules = ((), ((0, 1),), ((0,),))
        self.assertEqual([bars(2, rules, 'sure'), bars(2, rules, 'possible')], [[(0,), (1,)], [(1,)]])
        rules = ((), ((0, 1),), ((0,), (1,)))
        self.assertEqual(bars(2, rules, 'possible'), [()])
        with self.assertRaises(InvalidSet):
            choices(2, rules, ())


class TableOrTreeTest(unittest.TestCase):

    def check(self, many, rules):
        """Exactly one of the table and the tree, each as it has to be."""
        table, tree = exact(many, rules), choice_tree(many, rules)
        self.assertIsNot(table is None, tree is None, (many, rules))
        if tree is None:
            self.assertTrue(ruled_table_is_right(many, table), (many, rules, table))
            self.assertTrue(table_has_just_the_keys(many, rules, table), (many, rules, table))
            self.assertIs(is_exact(many, rules, table), True)
        else:
            self.assertTrue(choice_tree_is_right(many, rules, tree), (many, rules, tree))
            self.assertIs(is_choice_tree(many, rules, tree), True)
        return table is not None

    def test_example(self):
        self.assertEqual([is_exact(3, RULES, exact(3, RULES)), exact(2, IMPOSSIBLE)], [True, None])
        self.assertIsNone(choice_tree(3, RULES))

    def test_all_rules_of_two_columns(self):
        for rules in all_rules_of_two_columns():
            self.check(2, rules)

    def test_drawn_rules(self):
        for many, rules in each_drawn_rules(800, seed=32):
            self.check(many, rules)

    def test_harsh_rules(self):
        found = [self.check(many, rules) for many, rules in each_harsh_rules(800, seed=36)]
        self.assertGreater(found.count(False), 50)

    def test_some_rules_without_table(self):
        for many, rules in WITHOUT_TABLE:
            self.assertFalse(self.check(many, rules))

    def test_without_rules(self):
        for many in (1, 2, 3, 4):
            for known in all_sets(many):
                self.assertTrue(self.check(many, (known, (), ())))

    def test_without_bars(self):
        for many in (1, 2, 3, 4):
            for rules in [((), ((),), ()), ((), (), ((),)), ((0,), ((), (0,)), ((0,), ()))]:
                self.assertTrue(self.check(many, rules))
                self.assertEqual(len(exact(many, rules)), 1)
                for value in [(), ((5,) * many,)]:
                    self.assertIs(is_exact(many, rules, value), True)
                self.assertIs(is_exact(many, rules, ((5,) * many, (6,) * many)), False)

    def test_a_possible_key_that_is_not_sure(self):
        rules = ((), (), ((0,),))
        self.assertTrue(self.check(1, rules))
        self.assertIs(is_exact(1, rules, ((None,), (3,))), True)
        self.assertIs(is_exact(1, rules, ((None,), (None,))), True)
        self.assertIs(is_exact(1, rules, ((4,), (3,))), False)
        self.assertIs(is_exact(1, rules, ((3,), (3,))), False)


class IsExactTest(unittest.TestCase):

    def check(self, many, rules, value):
        expected = table_has_just_the_keys(many, rules, value)
        self.assertIs(is_exact(many, rules, value), expected, (many, rules, value))

    def test_changed_tables(self):
        others = [0, 1, 7, None, -1, 'x', (), (0,), [0]]
        for many, rules in [(3, RULES), (2, ((), ((0, 1),), ((0,),))), (1, ((), (), ((0,),))), (2, ((0,), (), ((1,),)))]:
            table = exact(many, rules)
            self.assertIs(is_exact(many, rules, table), True)
            for value in changed_somewhere(table, others):
                self.check(many, rules, value)

    def test_changed_tables_of_drawn_rules(self):
        others = [1, None, True, (5,) * 4]
        for many, rules in each_drawn_rules(60, seed=33):
            table = exact(many, rules)
            if table is not None and len(table) <= 8:
                for value in changed_somewhere(table, others):
                    self.check(many, rules, value)

    def test_unknown_entries_in_known_columns(self):
        table = ((1, 1), (1, 2), (3, None))
        self.assertIs(is_exact(2, ((), ((0, 1),), ()), table), False)
        table = ((0, 0), (0, 1), (5, 5), (6, 5), (7, None))
        self.assertIs(is_exact(2, ((0,), ((0, 1),), ()), table), True)
        self.assertIs(is_exact(2, ((1,), ((0, 1),), ()), table), False)
        self.assertIs(is_exact(2, ((0, 1), ((0, 1),), ()), table), False)
        self.assertIs(is_exact(2, ((), ((0, 1),), ()), table), True)

    def test_other_tables_that_are_exact(self):
        self.assertIs(is_exact(2, IMPOSSIBLE, ((0, None), (None, 0))), False)
        self.assertIs(is_exact(2, ((), ((0, 1),), ()), ((0, 0), (0, 1), (1, 0))), True)
        self.assertIs(is_exact(2, ((), ((0, 1),), ()), ((0, 0), (0, 1))), False)
        self.assertIs(is_exact(2, ((), ((0, 1),), ((0,),)), ((0, 0), (0, 1), (1, 0))), False)
        self.assertIs(is_exact(2, ((), ((0, 1),), ((0,),)), ((0, 0), (None, 1), (1, 0))), True)

    def test_how_many_rows(self):
        rules = ((), ((0, 1),), ())
        rows = ((0, 0), (0, 1), (1, 0)) + tuple((k, k) for k in range(2, 39))
        self.assertIs(is_exact(2, rules, rows), True)
        self.assertIs(is_exact(2, rules, rows + ((50, 50),)), False)
        self.assertIs(is_exact(2, ((), (), ()), ((0, 0),) * 40), True)
        self.assertIs(is_exact(2, ((), (), ()), ((0, 0),) * 41), False)
        for value in [(), ((0, 0),)]:
            self.assertIs(is_exact(2, rules, value), False)
            self.assertIs(is_exact(2, ((), ((),), ()), value), True)

    def test_any_value(self):
        for rules in [((), ((),), ()), ((), (), ()), ((), ((0,),), ())]:
            for value in WRONG_EVERYWHERE + [[(0,)], ([0],), ((True,),), ((-1,),), (('0',),), ((0, 0),), ((),), (0,)]:
                self.assertIs(is_exact(1, rules, value), False, value)
            for value in WRONG_EVERYWHERE:
                self.assertIs(is_exact(1, rules, (value,)), False, value)

    def test_tables_of_other_rules(self):
        found = []
        for many, (known, sure, possible) in each_drawn_rules(300, seed=34):
            table = exact(many, (known, sure, possible))
            others = [((), sure, possible), ((many - 1,), sure, possible), (known, sure[1:], possible),
                      (known, sure, possible[1:]), (known, possible, sure)]
            if table is not None:
                for other in others:
                    self.check(many, other, table)
                    found.append(is_exact(many, other, table))
        self.assertGreater(min(found.count(True), found.count(False)), 100)


class IsChoiceTreeTest(unittest.TestCase):

    def right(self, many, rules, *values):
        for value in values:
            self.assertTrue(choice_tree_is_right(many, rules, value), value)
            self.assertIs(is_choice_tree(many, rules, value), True, value)

    def wrong(self, many, rules, *values):
        for value in values:
            self.assertFalse(choice_tree_is_right(many, rules, value), value)
            self.assertIs(is_choice_tree(many, rules, value), False, value)

    def test_right(self):
        self.right(2, IMPOSSIBLE, TREE, ('choose', 1, (('choose', 0, (('clash', (0, 1), (1, 1)),)),)))

    def test_words_and_numbers(self):
        clash = ('clash', (0, 1), (1, 1))
        below = ('choose', 1, (clash,))
        self.wrong(2, IMPOSSIBLE, clash, below, ('choose', 0, (clash,)), ('chose', 0, (below,)), ('clash', 0, (below,)),
                   ('choose', 2, (below,)), ('choose', -1, (below,)), ('choose', True, (below,)),
                   ('choose', False, (below,)), ('choose', None, (below,)), ('choose', (0,), (below,)),
                   ('choose', 0, below), ('choose', 0, [below]), ('choose', 0, ()), ('choose', 0, (below, below)),
                   ('choose', 0), ('choose', 0, (below,), ()), ['choose', 0, (below,)], ('choose', 0, (list(below),)),
                   ('choose', 0, (('choose', 0, (clash,)),)), ('choose', 0, (('choose', 1, (below,)),)), 'choose', ())

    def test_clashes(self):
        def tree(*clash):
            return ('choose', 0, (('choose', 1, (clash,)),))

        self.right(2, IMPOSSIBLE, tree('clash', (0, 1), (1, 1)))
        self.wrong(2, IMPOSSIBLE, tree('clash', (1, 1), (0, 1)), tree('clash', (0, 0), (1, 1)),
                   tree('clash', (0, 1), (1, 0)), tree('clash', (0, 0), (0, 1)), tree('clash', (0, 1), (0, 1)),
                   tree('clash', (0, 1), (2, 1)), tree('clash', (0, 2), (1, 1)), tree('clash', (0, 1), (1, 2)),
                   tree('clash', (0, -1), (1, 1)), tree('clash', (-2, 1), (1, 1)), tree('clash', (0, True), (1, 1)),
                   tree('clash', (False, 1), (1, 1)), tree('clash', (0, 1), (True, 1)), tree('clash', [0, 1], (1, 1)),
                   tree('clash', (0, 1), [1, 1]), tree('clash', (0, 1)), tree('clash', (0, 1), (1, 1), ()),
                   tree('clash', 0, 1), tree('clash', (0, 1, 0), (1, 1)), tree('clash', (0,), (1,)),
                   tree('clash', (0, None), (1, 1)), tree('clash', None, None), tree('Clash', (0, 1), (1, 1)),
                   tree('clash', ((0,), 1), (1, 1)), tree('clash', ('0', 1), (1, 1)), tree('clash', '01', '11'))

    def test_choices_that_were_not_made(self):
        self.wrong(2, IMPOSSIBLE, ('choose', 0, (('clash', (0, 1), (1, 1)),)), ('choose', 1, (('clash', (0, 1), (1, 1)),)))

    def test_rules_without_bars(self):
        for many in (1, 2, 3, 4):
            for value in WRONG_EVERYWHERE + [TREE, ('clash', (0, 0), (1, 0)), ('choose', 0, ()), ('choose', 0, (TREE,))]:
                self.wrong(many, ((), ((),), ()), value)

    def test_rules_with_a_table(self):
        for value in [TREE, ('choose', 0, (('choose', 1, (('clash', (0, 0), (1, 0)),)),))]:
            self.wrong(3, RULES, value)
            self.wrong(2, ((), ((0, 1),), ()), value)

    def test_any_value(self):
        for value in WRONG_EVERYWHERE:
            self.wrong(2, IMPOSSIBLE, value, ('choose', 0, value), ('choose', 0, (value,)), ('choose', value, TREE[2]),
                       (value, 0, TREE[2]), ('choose', 0, (('choose', 1, (value,)),)),
                       ('choose', 0, (('choose', 1, (('clash', value, (1, 1)),)),)),
                       ('choose', 0, (('choose', 1, (('clash', (0, 1), value),)),)),
                       ('choose', 0, (('choose', 1, (('clash', (0, value), (1, 1)),)),)))

    def test_wrong_values_of_any_depth(self):
        for leaf in [('clash', (0, 1), (1, 1)), (), None, 'x']:
            value = leaf
            for depth in range(19):
                value = ('choose', depth % 2, (value,))
                if depth > 1:
                    self.wrong(2, IMPOSSIBLE, value)
        value = ('clash', (0, 0), (1, 0))
        for _ in range(19):
            value = ('choose', 0, (value,) * 4)
        self.wrong(4, ((), ((0, 1, 2, 3),), ()), value)

    def test_changed_trees(self):
        others = [0, 1, 2, 3, -1, None, 'clash', 'choose', (), (0, 0), (0, 1), (1, 1), (2, 1), [0, 1],
                  ('clash', (0, 1), (1, 1))]
        looked_at = 0
        for many, rules in WITHOUT_TABLE + list(each_harsh_rules(400, seed=35)):
            tree = choice_tree(many, rules)
            if tree is not None and looked_at < 40:
                looked_at += 1
                offers = offers_by_definition(many, rules)
                for value in changed_somewhere(tree, others):
                    expected = offered_tree_is_right(rules, offers, {}, value)
                    self.assertIs(is_choice_tree(many, rules, value), expected, (many, rules, value))
        self.assertEqual(looked_at, 40)


if __name__ == '__main__':
    unittest.main()
