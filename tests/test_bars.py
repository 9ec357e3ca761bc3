"""surekeys.bars: the least keys and the bars of key rules."""

import unittest

from surekeys.bars import bars, least_keys
from surekeys.errors import InvalidKind
from surekeys.rules import follows
from tests.judges import bars_by_definition, least_keys_by_definition
from tests.samples import WRONG_EVERYWHERE, all_rules_of_two_columns, all_sets, each_drawn_rules

KINDS = ('sure', 'possible')
RULES = ((0,), ((0, 1),), ((0, 2),))


class BarsTest(unittest.TestCase):

    def check(self, many, rules, kind):
        keys, found = least_keys(many, rules, kind), bars(many, rules, kind)
        self.assertEqual(keys, least_keys_by_definition(many, rules, kind), (many, rules, kind))
        self.assertEqual(found, bars_by_definition(many, rules, kind), (many, rules, kind))
        self.assertEqual((type(keys), type(found)), (list, list))
        for some in all_sets(many):
            there = follows(many, rules, kind, some)
            self.assertIs(any(set(key) <= set(some) for key in keys), there, (many, rules, kind, some))
            self.assertIs(not any(set(some) <= set(bar) for bar in found), there, (many, rules, kind, some))

    def test_example(self):
        self.assertEqual([bars(3, RULES, 'sure'), least_keys(3, RULES, 'possible')],
                         [[(0, 2), (1, 2)], [(0, 1), (0, 2)]])

    def test_all_rules_of_two_columns(self):
        for rules in all_rules_of_two_columns():
            for kind in KINDS:
                self.check(2, rules, kind)

    def test_drawn_rules(self):
        for many, rules in each_drawn_rules(800, seed=21):
            for kind in KINDS:
                self.check(many, rules, kind)

    def test_no_rules(self):
        for many in (1, 2, 3, 4):
            for known in all_sets(many):
                for kind in KINDS:
                    self.assertEqual(least_keys(many, (known, (), ()), kind), [])
                    self.assertEqual(bars(many, (known, (), ()), kind), [tuple(range(many))])

    def test_no_least_key_of_one_kind(self):
        rules = ((0,), (), ((1,), (0, 2)))
        self.assertEqual([least_keys(3, rules, 'sure'), bars(3, rules, 'sure')], [[], [(0, 1, 2)]])
        self.assertEqual([least_keys(3, rules, 'possible'), bars(3, rules, 'possible')], [[(0, 2), (1,)], [(0,), (2,)]])

    def test_empty_set(self):
        for many in (1, 2, 3, 4):
            for rules in [((), ((),), ()), ((), (), ((),)), ((0,), ((0,), ()), ((0,),))]:
                for kind in KINDS:
                    self.assertEqual(least_keys(many, rules, kind), [()])
                    self.assertEqual(bars(many, rules, kind), [])

    def test_the_empty_bar(self):
        rules = ((), ((0,), (1,), (2,)), ())
        for kind in KINDS:
            self.assertEqual(least_keys(3, rules, kind), [(0,), (1,), (2,)])
            self.assertEqual(bars(3, rules, kind), [()])

    def test_six_sets(self):
        pairs = ((0, 1), (0, 2), (0, 3), (1, 2), (1, 3), (2, 3))
        self.assertEqual(least_keys(4, ((), pairs, ()), 'sure'), list(pairs))
        self.assertEqual(bars(4, ((), pairs, ()), 'sure'), [(0,), (1,), (2,), (3,)])
        self.assertEqual(least_keys(4, ((), (), pairs), 'possible'), list(pairs))
        self.assertEqual(least_keys(4, ((1, 2), (), pairs), 'sure'), [(1, 2)])
        self.assertEqual(bars(4, ((1, 2), (), pairs), 'sure'), [(0, 1, 3), (0, 2, 3)])
        triples = ((0, 1, 2), (0, 1, 3), (0, 2, 3), (1, 2, 3))
        self.assertEqual(bars(4, ((), triples, ()), 'possible'), list(pairs))

    def test_sets_that_others_contain(self):
        rules = ((), ((0, 1, 2), (1,), (0, 1), (1,)), ((2, 3), (2,), (0, 2)))
        self.assertEqual(least_keys(4, rules, 'sure'), [(1,)])
        self.assertEqual(least_keys(4, rules, 'possible'), [(1,), (2,)])

    def test_invalid_kind(self):
        for kind in [value for value in WRONG_EVERYWHERE if value != 'sure'] + ['Sure', ('possible',)]:
            for function in (least_keys, bars):
                with self.assertRaises(InvalidKind):
                    function(3, RULES, kind)


if __name__ == '__main__':
    unittest.main()
