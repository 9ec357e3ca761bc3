"""surekeys.rules, and the fourth promise of point 3: either a reason, or a table of two rows against it."""

import random
import unittest
from itertools import product

from surekeys.errors import InvalidKind, InvalidNumber
from surekeys.rules import against, follows, is_rules, obeys, reason
from tests.judges import has_reason, is_ruled_key, reason_is_right, rules_are_right, ruled_table_is_right, table_obeys
from tests.samples import WRONG_EVERYWHERE, all_sets, changed_somewhere, each_drawn_rules

KINDS = ('sure', 'possible')
RULES = ((0,), ((0, 1),), ((0, 2),))


def obeying_tables(many, rules, entries, rows):
    return [table for count in range(rows + 1) for table in product(product(entries, repeat=many), repeat=count)
            if table_obeys(many, rules, table)]


class IsRulesTest(unittest.TestCase):

    def right(self, many, *values):
        for value in values:
            self.assertIs(is_rules(many, value), True, value)

    def wrong(self, many, *values):
        for value in values:
            self.assertIs(is_rules(many, value), False, value)

    def test_right(self):
        self.right(3, RULES, ((), (), ()), ((0, 1, 2), ((0, 1, 2),), ()), ((1,), (), ((), (2,), (0, 2))))
        self.right(1, ((), ((),), ((0,),)), ((0,), (), ()))
        self.right(4, ((0, 3), ((1, 2, 3), (0, 1, 2, 3)), ((3,),)))

    def test_how_many_sets(self):
        for count in range(7):
            self.right(2, ((), ((0,),) * count, ()), ((), (), ((0, 1),) * count))
            self.right(2, ((0,), ((),) * count, ((1,),) * count))
        for count in (7, 8, 20):
            self.wrong(2, ((), ((0,),) * count, ()), ((), (), ((0, 1),) * count), ((0,), ((1,),) * 6, ((1,),) * count))
        self.right(2, ((), ((0,), (1,), (0,)), ((), ())))

    def test_how_many_parts(self):
        self.wrong(3, (), ((),), ((), ()), ((), (), (), ()), RULES[:2], RULES + ((),), RULES + RULES)

    def test_sets_that_are_none(self):
        for some in [(1, 0), (0, 0), (3,), (0, 3), (-1,), (True,), (False, True), (0, True), [0], [], 0, None, '0',
                     (None,), ('0',), ((0,),), ([0],), 'sure', True, (0, 2, 1)]:
            self.wrong(3, (some, (), ()), ((), (some,), ()), ((), (), (some,)), ((), ((0,), some), ()),
                       ((), ((0,),), ((1,), some)))

    def test_columns(self):
        for many in (1, 2, 3, 4):
            last, all_columns = many - 1, tuple(range(many))
            self.right(many, ((last,), ((last,),), ((last,),)), (all_columns, (all_columns,), (all_columns,)))
            self.wrong(many, ((many,), (), ()), ((), ((many,),), ()), ((), (), ((many,),)), ((0, many), (), ()))

    def test_lists(self):
        self.wrong(3, [(), (), ()], ([], (), ()), ((), [], ()), ((), (), []), ((), [(0,)], ()), ((), ([0],), ()),
                   ((), (), ((0,), [1])), list(RULES), ((0,), [(0, 1)], ((0, 2),)))

    def test_any_value(self):
        for many in (1, 2, 3, 4):
            for value in WRONG_EVERYWHERE:
                self.wrong(many, value, ((), value, ()), ((), (), value), ((), (value,), ()))
                if value != ():
                    self.wrong(many, (value, (), ()))

    def test_changed_rules(self):
        others = [0, 1, 2, 3, -1, None, 'sure', (), (0,), (1, 0), ((0,),), [0], ((1,),) * 6, ((1,),) * 7]
        for many, rules in each_drawn_rules(60, seed=1):
            self.right(many, rules)
            for value in changed_somewhere(rules, others):
                self.assertIs(is_rules(many, value), rules_are_right(many, value), (many, value))

    def test_invalid_number(self):
        for many in [value for value in WRONG_EVERYWHERE] + [0, 5, 6, (1,), '1', [3]]:
            for value in (RULES, None, ((), (), ())):
                with self.assertRaises(InvalidNumber):
                    is_rules(many, value)


class ObeysTest(unittest.TestCase):

    def check(self, many, rules, value, expected):
        self.assertEqual(table_obeys(many, rules, value), expected, (rules, value))
        self.assertIs(obeys(many, rules, value), expected, (rules, value))

    def test_no_rules(self):
        for many in (1, 2, 3, 4):
            for rows in (0, 1, 2, 39, 40):
                self.check(many, ((), (), ()), ((None,) * many,) * rows, True)
                self.check(many, ((), (), ()), ((3,) * many,) * rows, True)
            for rows in (41, 42, 60):
                self.check(many, ((), (), ()), ((None,) * many,) * rows, False)
                self.check(many, ((), (), ()), ((3,) * many,) * rows, False)

    def test_few_rows(self):
        strict = ((0, 1), ((), (0,)), ((), (1,)))
        self.check(2, strict, (), True)
        self.check(2, strict, ((4, 4),), True)
        self.check(2, strict, ((4, None),), False)
        self.check(2, strict, ((4, 4), (5, 5)), False)
        self.check(2, ((), ((),), ()), ((None, None),), True)
        self.check(2, ((), (), ((),)), ((None, None),), True)
        self.check(2, ((), (), ((),)), ((None, None), (None, None)), False)

    def test_known_columns(self):
        self.check(2, ((0,), (), ()), ((1, None), (2, None)), True)
        self.check(2, ((0,), (), ()), ((1, 1), (None, 1)), False)
        self.check(2, ((0, 1), (), ()), ((1, None),), False)
        self.check(3, ((1,), (), ()), ((None, 0, None),) * 40, True)

    def test_sure(self):
        rules = ((), ((0, 1),), ())
        self.check(2, rules, ((1, 1), (1, 2), (2, 1)), True)
        self.check(2, rules, ((1, 1), (1, None)), False)
        self.check(2, rules, ((1, 1), (None, None)), False)
        self.check(2, rules, ((1, None), (2, None)), True)
        self.check(2, rules, ((1, 1), (2, 2), (1, 1)), False)
        self.check(2, ((), ((0, 1), (0,)), ()), ((1, 1), (1, 2)), False)

    def test_possible(self):
        rules = ((), (), ((0, 1),))
        self.check(2, rules, ((1, 1), (1, 2), (2, 1)), True)
        self.check(2, rules, ((1, 1), (1, None), (1, None), (None, 1)), True)
        self.check(2, rules, ((1, 1), (None, 1), (1, 1)), False)
        self.check(2, ((), (), ((0, 1), (1,))), ((1, 1), (1, None), (2, 1)), False)

    def test_many_rows_and_unknown_entries(self):
        rows = tuple((k, None, k // 7, None) for k in range(40))
        rules = ((0, 2), ((0,), (0, 1)), ((1,), (2, 3), (1, 2, 3)))
        self.check(4, rules, rows, True)
        self.check(4, rules, rows + ((40, 0, 0, 0),), False)
        self.check(4, rules, rows[:39] + ((38, 0, 0, 0),), False)
        self.check(4, ((0, 1), (), ()), rows, False)
        self.check(4, ((), ((2,),), ()), rows, False)
        self.check(4, ((), (), ((2,),)), rows, False)

    def test_values_that_are_no_tables(self):
        for value in WRONG_EVERYWHERE:
            self.check(1, ((), (), ()), value, False)
            self.check(1, ((), (), ()), (value,), False)
            if value is not None and value != 10 ** 30:
                self.check(1, ((), (), ()), ((value,),), False)
        self.check(2, ((), (), ()), ((1, 2), (1,)), False)
        self.check(2, ((), (), ()), ((1, 2, 3),), False)
        self.check(2, ((), (), ()), ((),), False)
        self.check(2, ((), (), ()), [(1, 2)], False)
        self.check(2, ((), (), ()), ([1, 2],), False)
        self.check(2, ((), (), ()), ((1, True),), False)
        self.check(2, ((), (), ()), ((1, -1),), False)
        self.check(2, ((), (), ()), ((10 ** 30 - 1, 2), (None, None)), True)

    def test_all_small_tables(self):
        for many, rules in each_drawn_rules(60, seed=2):
            for count in range(3):
                for value in product(product((0, 1, None), repeat=min(many, 3)), repeat=count):
                    self.assertIs(obeys(many, rules, value), table_obeys(many, rules, value), (rules, value))

    def test_drawn_tables(self):
        draw = random.Random(5)
        agreed = {True: 0, False: 0}
        for many, rules in each_drawn_rules(1500, seed=3):
            rows = draw.choice((2, 3, 5, 9, 12))
            value = tuple(tuple(draw.choice((k, 0, None)) for _ in range(many)) for k in range(1, rows + 1))
            expected = table_obeys(many, rules, value)
            agreed[expected] += 1
            self.assertIs(obeys(many, rules, value), expected, (rules, value))
        self.assertGreater(min(agreed.values()), 50)

    def test_changed_tables(self):
        others = [0, 1, -1, None, 'x', (), (0,), (0, 0), [0]]
        for many, rules in each_drawn_rules(40, seed=4):
            table = against(many, rules, 'sure', ()) or ((1,) * many,)
            for value in changed_somewhere(table, others):
                self.assertIs(obeys(many, rules, value), table_obeys(many, rules, value), (rules, value))


class FollowsTest(unittest.TestCase):

    def check(self, many, rules, kind, some):
        """Exactly one of reason and against, each as it has to be."""
        case = (many, rules, kind, some)
        why, table = reason(*case), against(*case)
        self.assertIs(follows(*case), has_reason(rules, kind, some), case)
        self.assertEqual(why is None, not has_reason(rules, kind, some), case)
        if why is not None:
            self.assertTrue(reason_is_right(rules, kind, some, why), (case, why))
            self.assertIsNone(table, case)
        else:
            self.assertTrue(ruled_table_is_right(many, table) and len(table) == 2, (case, table))
            self.assertTrue(table_obeys(many, rules, table), (case, table))
            self.assertFalse(is_ruled_key(table, kind, some), (case, table))

    def test_example(self):
        found = [follows(3, RULES, 'sure', (0, 1, 2)), follows(3, RULES, 'sure', (0, 2)),
                 reason(3, RULES, 'possible', (0, 2))]
        self.assertEqual(found, [True, False, ('possible', 0)])

    def test_drawn_rules(self):
        for many, rules in each_drawn_rules(1200, seed=6):
            for some in all_sets(many):
                for kind in KINDS:
                    self.check(many, rules, kind, some)

    def test_no_rules(self):
        for many in (1, 2, 3, 4):
            for some in all_sets(many):
                for kind in KINDS:
                    for known in all_sets(many):
                        self.check(many, (known, (), ()), kind, some)
                        self.assertIs(follows(many, (known, (), ()), kind, some), False)

    def test_empty_set_as_a_rule(self):
        for many in (1, 2, 3, 4):
            for some in all_sets(many):
                for kind in KINDS:
                    self.assertEqual(reason(many, ((), ((),), ()), kind, some), ('sure', 0))
                    self.assertEqual(reason(many, ((), (), ((),)), kind, some), ('possible', 0))

    def test_possible_within_the_known_columns(self):
        rules = ((0, 1), (), ((2,), (0, 1)))
        self.assertEqual(reason(3, rules, 'sure', (0, 1)), ('possible', 1))
        self.assertEqual(reason(3, rules, 'sure', (0, 1, 2)), ('possible', 1))
        self.assertIsNone(reason(3, rules, 'sure', (0, 2)))
        self.assertEqual(reason(3, rules, 'possible', (0, 2)), ('possible', 0))
        self.assertIsNone(reason(3, ((0,), (), ((0, 1),)), 'sure', (0, 1)))

    def test_sure_keys_are_possible_ones(self):
        self.assertEqual(reason(2, ((), ((0,),), ()), 'possible', (0, 1)), ('sure', 0))

    def test_follows_means_a_key_of_every_table(self):
        for many, rules in each_drawn_rules(40, seed=7):
            if many < 3:
                tables = obeying_tables(many, rules, (0, 1, None), 3)
                for kind, some in product(KINDS, all_sets(many)):
                    everywhere = all(is_ruled_key(table, kind, some) for table in tables)
                    self.assertIs(follows(many, rules, kind, some), everywhere, (rules, kind, some))

    def test_invalid_kind(self):
        kinds = [value for value in WRONG_EVERYWHERE if value != 'sure']
        for kind in kinds + ['Sure', 'SURE', 'possibl', 'sure ', 0, 1, ('sure',), ['possible'], ('sure', 'possible')]:
            for function in (follows, reason, against):
                with self.assertRaises(InvalidKind):
                    function(3, RULES, kind, (0, 2))


if __name__ == '__main__':
    unittest.main()
