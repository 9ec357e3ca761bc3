"""surekeys.checker: certificates of each form, right ones and wrong ones, beside a second checker in tests/verdicts.py."""

import random
import unittest
from collections import Counter

from surekeys import errors
from surekeys.checker import check
from surekeys.crowds import crowd, key_world
from surekeys.desk import Desk
from surekeys.exact import choice_tree, exact
from surekeys.meeting import meeting_world
from surekeys.rules import against, reason
from surekeys.several import common_world, twin_tree
from tests.samples import (WRONG_EVERYWHERE, all_sets, changed_somewhere, drawn_close_case, drawn_hard_case,
                           each_drawn_rules, each_harsh_rules)
from tests.verdicts import FORMS, RIGHT, certificate_outcome

BIT = ((0, 1),)
BITS = ((0, 1), (0, 1))
MIXED = (None, (0, 1))
RULES = ((0,), ((0, 1),), ((0, 2),))
IMPOSSIBLE = ((), ((0, 1),), ((0,), (1,)))
SPLIT = ('split', 1, 0, (('twins', 0, 1, 0), ('twins', 1, 2, 0)))
CHOOSE = ('choose', 0, (('choose', 1, (('clash', (0, 1), (1, 1)),)),))
# One right certificate of each form, and a few more of those with deeper parts.
EXAMPLES = [
    ('meeting', MIXED, ((5, None), (5, 0)), (0, 1), ((5, 0), (5, 0))),
    ('key', BIT, ((None,), (0,)), ((0,),), ((1,), (0,))),
    ('crowd', MIXED, ((5, None), (6, None), (7, None)), (1,), (0, 1, 2)),
    ('tree', BIT, ((0,), (None,), (1,)), ((0,),), SPLIT),
    ('tree', MIXED, ((3, None), (None, 0), (3, 1)), ((0, 1), (1,)),
     ('new', 1, 0, ('split', 0, 1, (('twins', 0, 1, 1), ('twins', 0, 2, 0))))),
    ('reason', 3, RULES, 'possible', (0, 2), ('possible', 0)),
    ('against', 3, RULES, 'sure', (0, 2), ((0, 0, 0), (0, 1, None))),
    ('exact', 1, ((), (), ((0,),)), ((None,), (3,))),
    ('choices', 2, IMPOSSIBLE, CHOOSE),
]
OTHERS = [0, 1, 2, 5, -1, None, True, '0', (), (0,), [1], 'sure', ((0, 1),)]


def outcome(value):
    try:
        return check(value)
    except errors.KeyRuleError as error:
        return type(error)


def own_certificates_of_tables(draw):
    """Certificates with what the program itself returns for a drawn table, its sets and a demand."""
    if draw.random() < 0.5:
        columns, table, demand = drawn_hard_case(draw, draw.choice((2, 3, 5, 8)))
    else:
        columns, table, some = drawn_close_case(draw)
        demand = (some, tuple(range(len(columns))))
    for some in all_sets(len(columns)):
        yield 'meeting', columns, table, some, meeting_world(columns, table, some)
        yield 'key', columns, table, (some,), key_world(columns, table, some)
        yield 'crowd', columns, table, some, crowd(columns, table, some)
    for sets in (demand, demand[:1], ()):
        yield 'key', columns, table, sets, common_world(columns, table, sets)
        yield 'tree', columns, table, sets, twin_tree(columns, table, sets)


def own_certificates_of_rules(many, rules):
    for kind in ('sure', 'possible'):
        for some in all_sets(many):
            yield 'reason', many, rules, kind, some, reason(many, rules, kind, some)
            yield 'against', many, rules, kind, some, against(many, rules, kind, some)
    yield 'exact', many, rules, exact(many, rules)
    yield 'choices', many, rules, choice_tree(many, rules)


def each_own_certificate(times, seed):
    """Certificates of all forms; where the program returns None, there is none."""
    draw = random.Random(seed)
    for _ in range(times):
        for value in own_certificates_of_tables(draw):
            if value[-1] is not None:
                yield value
    for cases in (each_drawn_rules(times, seed), each_harsh_rules(5 * times, seed)):
        for many, rules in cases:
            for value in own_certificates_of_rules(many, rules):
                if value[-1] is not None:
                    yield value


class Cases(unittest.TestCase):

    def right(self, *values):
        for value in values:
            found = check(value)
            self.assertEqual(found, RIGHT, value)
            self.assertIs(type(found), tuple)

    def wrong(self, k, *values):
        for value in values:
            found = check(value)
            self.assertEqual(found, ('wrong', k), value)
            self.assertEqual((type(found), type(found[1])), (tuple, int))

    def raises_exactly(self, error, *values):
        for value in values:
            with self.assertRaises(errors.KeyRuleError, msg=value) as caught:
                check(value)
            self.assertIs(type(caught.exception), error, value)


class FormsTest(Cases):

    def test_example(self):
        self.assertEqual([check(('key', BIT, ((None,), (0,)), ((0,),), ((1,), (0,)))),
                          check(('crowd', BIT, ((0,), (1,)), (0,), (0, 1)))], [('right',), ('wrong', 1)])

    def test_one_of_each_form(self):
        self.right(*EXAMPLES)
        self.assertEqual({value[0] for value in EXAMPLES}, set(FORMS))

    def test_meeting(self):
        table = ((5, None), (5, 0), (None, 1))
        self.right(('meeting', MIXED, table, (0, 1), ((5, 0), (5, 0), (6, 1))),
                   ('meeting', MIXED, table, (0, 1), ((5, 1), (5, 0), (5, 1))),
                   ('meeting', MIXED, table, (), ((5, 1), (5, 0), (7, 1))))
        self.wrong(1, ('meeting', MIXED, table, (0, 1), ((5, 1), (5, 0), (6, 1))),
                   ('meeting', MIXED, (), (), ()), ('meeting', MIXED, ((None, 0),), (), ((7, 0),)))
        worlds = [((5, 0), (5, 1), (6, 1)), ((5, None), (5, 0), (6, 1)), ((5, 0), (5, 0), (None, 1)), ((5, 0), (5, 0)),
                  ((5, 0), (5, 0), (6, 1), (6, 1)), ((5, 2), (5, 0), (6, 1)), ((5, 0), (5, 0), (6,)), (), None, 'world',
                  [(5, 0), (5, 0), (6, 1)], ((5, 0), [5, 0], (6, 1)), ((5, False), (5, False), (6, True))]
        for world in worlds:
            self.wrong(0, *[('meeting', MIXED, table, some, world) for some in all_sets(2)])

    def test_key(self):
        table, demand = ((None, 0), (0, None)), ((0,), (1,))
        self.right(('key', BITS, table, demand, ((1, 0), (0, 1))), ('key', BITS, table, (), ((0, 0), (0, 0))),
                   ('key', BITS, (), ((), (0,)), ()), ('key', BITS, table, demand[:1], ((1, 0), (0, 0))))
        self.wrong(1, ('key', BITS, table, demand, ((1, 0), (0, 0))), ('key', BITS, table, demand, ((0, 0), (0, 1))),
                   ('key', BITS, table, demand + ((),), ((1, 0), (0, 1))))
        for world in [((1, 1), (0, 1)), ((1, 0), (0, None)), ((1, 0),), ((1, 0), (0, 1), (1, 1)), ((1, 0), (0, 2)), None,
                      ((1, 0), (0, True)), [(1, 0), (0, 1)], ([1, 0], [0, 1]), ((1, 0, 0), (0, 1)), 'key', 7]:
            self.wrong(0, ('key', BITS, table, demand, world), ('key', BITS, table, ((), ()), world))

    def test_crowd(self):
        table = ((5, None), (6, None), (7, None), (8, 0))
        self.right(*[('crowd', MIXED, table, (1,), rows) for rows in [(0, 1, 2), (0, 2, 3), (0, 1, 2, 3)]])
        self.wrong(1, *[('crowd', MIXED, table, (1,), rows) for rows in [(0, 1), (0, 3), (2, 3)]],
                   ('crowd', MIXED, table, (0,), (0, 1, 2, 3)), ('crowd', (None,), ((None,), (3,), (3,)), (0,), (0, 1, 2)))
        for rows in [(1, 0, 2), (0, 1, 1), (0, 0), (0,), (), (0, 4), (0, 1, 2, 4), [0, 1, 2], (False, True, 2), (0, True),
                     (-1, 0), ((0, 1), 2), ('0', '1'), None, 'crowd', 3, (0, None), (2, 1, 0), (10 ** 30, 10 ** 30 + 1)]:
            self.wrong(0, ('crowd', MIXED, table, (1,), rows), ('crowd', MIXED, table, (0,), rows))

    def test_tree(self):
        columns, table, demand = BIT, ((0,), (None,), (1,)), ((0,),)
        self.right(('tree', columns, table, demand, SPLIT), ('tree', columns, ((0,), (0,)), demand, ('twins', 0, 1, 0)))
        trees = [('twins', 0, 1, 0), ('split', 1, 0, SPLIT[3][:1]), ('split', 1, 0, SPLIT[3][::-1]), SPLIT[:3],
                 ('split', 1, 0, SPLIT[3] * 2), ('split', 0, 0, SPLIT[3]), ('split', 1, 1, SPLIT[3]), list(SPLIT),
                 ('new', 1, 0, SPLIT[3][0]), ('choose', 1, 0, SPLIT[3]), ('split', True, 0, SPLIT[3]), ('sure',),
                 ('split', 1, False, SPLIT[3]), ('split', 1, 0, list(SPLIT[3])), None, 'twins', (), SPLIT + (0,),
                 ('split', 1, 0, (('twins', 0, 1, 0), ('twins', 2, 1, 0))), ('clash', (0, 0), (1, 0)),
                 ('split', 1, 0, (('twins', 0, 1, 0), ('twins', 1, 2, True))), ('split', 1, 0, (('twins', 0, 1, 0),) * 2),
                 ('split', 1, 0, (('twins', 0, 1, 0), ('clash', (0, 1), (1, 1)))), ('split', 1, 0, (SPLIT, SPLIT))]
        self.wrong(0, *[('tree', columns, table, demand, tree) for tree in trees],
                   ('tree', columns, table, (), SPLIT), ('tree', columns, table[:2], demand, SPLIT))

    def test_reason(self):
        self.right(('reason', 3, RULES, 'possible', (0, 2), ('possible', 0)),
                   ('reason', 3, RULES, 'possible', (0, 1), ('sure', 0)),
                   ('reason', 3, RULES, 'sure', (0, 1, 2), ('sure', 0)),
                   ('reason', 3, ((0, 2), (), ((0, 2),)), 'sure', (0, 2), ('possible', 0)))
        self.wrong(0, ('reason', 3, RULES, 'sure', (0, 2), ('possible', 0)),
                   ('reason', 3, RULES, 'possible', (1, 2), ('possible', 0)))
        for shown in [('sure', 0), ('possible', 1), ('possible', -1), ('possible', False), ['possible', 0], ('Possible', 0),
                      ('possible',), ('possible', 0, 0), (0, 'possible'), 'possible', None, 0, (None, 0), ('possible', None),
                      ('possible', (0,)), (['possible'], 0), ()]:
            self.wrong(0, ('reason', 3, RULES, 'possible', (0, 2), shown))

    def test_against(self):
        self.right(('against', 3, RULES, 'sure', (0, 2), ((7, 8, 9), (7, 7, None))),
                   ('against', 3, RULES, 'possible', (1, 2), ((7, 8, 9), (6, 8, 9))),
                   ('against', 3, ((), (), ()), 'sure', (0,), ((None,) * 3,) * 2))
        self.wrong(2, ('against', 3, RULES, 'sure', (0, 2), ((0, 1, 2), (1, 2, 3))),
                   ('against', 3, RULES, 'possible', (0, 2), ((0, 0, 0), (0, 1, None))))
        # That the set is a key comes behind the rules that are broken, and those behind the number of the rows.
        broken = [((0, 0, 0), (0, None, 1)), ((0, 0, 0), (0, 1, 0)), ((None, 0, 0), (1, 1, 1)), ((0, 0, 0), (0, 0, 0))]
        self.wrong(1, *[('against', 3, RULES, kind, some, table)
                        for kind in ('sure', 'possible') for some in all_sets(3) for table in broken])
        for table in [((0, 0, 0),), ((0, 0, 0), (0, 1, 1), (0, 2, 2)), ((0, 0, 0),) * 3, (), ((0, 0), (0, 1)), None, 2,
                      [(0, 0, 0), (0, 1, None)], ([0, 0, 0], [0, 1, None]), ((0, 0, 0), (0, 1, -1)), ('000', '01'),
                      ((0, 0, 0), (0, True, None)), ((0, 0, 0), (0, 1, '1')), ((0, 0, 0), (0, 1, (1,))), ((0, 0, 0), 1)]:
            self.wrong(0, ('against', 3, RULES, 'sure', (0, 2), table), ('against', 3, RULES, 'sure', (0, 1), table))

    def test_exact(self):
        table = exact(3, RULES)
        self.right(('exact', 3, RULES, table), ('exact', 3, RULES, table[::-1]), ('exact', 2, ((), ((),), ()), ()),
                   ('exact', 2, ((), ((),), ()), ((4, 4),)), ('exact', 1, ((), (), ()), ((0,), (0,))))
        self.wrong(1, ('exact', 3, RULES, table[1:]), ('exact', 3, RULES, table + ((0, None, None),)),
                   ('exact', 3, RULES, ()), ('exact', 3, RULES, table[:1] + ((90, 91, 92),) + table[2:]),
                   ('exact', 3, ((0, 1, 2), ((0, 1),), ((0, 2),)), table))
        for value in [list(table), tuple(map(list, table)), None, 'exact', 4, ((0, 0),), ((0, 0, -1),), ((0, 0, True),),
                      ((0, 0, '0'),), (0, 0, 0), ((0, 0, 0, 0),), ((0, 0, (0,)),)]:
            self.wrong(0, ('exact', 3, RULES, value))

    def test_exact_tables_of_40_rows(self):
        rules = ((), ((0,),), ())
        forty = tuple((row, None) for row in range(40))
        self.wrong(1, ('exact', 2, rules, forty))
        rows = forty[:39] + ((38, 5),)
        self.wrong(1, ('exact', 2, rules, rows))
        rows = tuple((row, 5) for row in range(40))
        self.right(('exact', 2, rules, rows))
        self.wrong(0, ('exact', 2, rules, rows + ((40, 5),)), ('exact', 2, rules, forty + ((40, None),)))
        self.right(('exact', 1, ((), (), ()), ((0,),) * 40))
        self.wrong(0, ('exact', 1, ((), (), ()), ((0,),) * 41))

    def test_choices(self):
        self.right(('choices', 2, IMPOSSIBLE, CHOOSE))
        clash = ('clash', (0, 1), (1, 1))
        trees = [clash, ('choose', 0, (clash,)), ('choose', 0, (('choose', 0, (clash,)),)), CHOOSE[:2], list(CHOOSE),
                 ('choose', 1, (('choose', 1, (clash,)),)), ('choose', 2, (('choose', 1, (clash,)),)), CHOOSE + (0,),
                 ('choose', 0, (('choose', 1, (clash, clash)),)), ('choose', 0, (('choose', 1, ()),)), None, (), 'clash',
                 ('choose', 0, (('choose', 1, (('clash', (1, 1), (0, 1)),)),)), ('split', 0, CHOOSE[2]),
                 ('choose', 0, (('choose', 1, (('clash', (0, 1), (0, 1)),)),)), ('choose', False, CHOOSE[2]),
                 ('choose', 0, (('choose', 1, (('clash', (0, 0), (1, 1)),)),)), ('choose', 0, list(CHOOSE[2])),
                 ('choose', 0, (('choose', 1, (('clash', (0, True), (1, 1)),)),)),
                 ('choose', 0, (('choose', 1, (('clash', (0, 1), (1, 2)),)),)),
                 ('choose', 0, (('choose', 1, (('clash', [0, 1], (1, 1)),)),)),
                 ('choose', 0, (('choose', True, (clash,)),)), ('choose', 0, (('choose', 1, (('twins', 0, 1, 0),)),))]
        self.wrong(0, *[('choices', 2, IMPOSSIBLE, tree) for tree in trees], ('choices', 3, RULES, CHOOSE))

    def test_the_other_order_of_bars(self):
        self.right(('choices', 2, IMPOSSIBLE, ('choose', 1, (('choose', 0, (('clash', (0, 1), (1, 1)),)),))))

    def test_several_conditions(self):
        # The first condition that does not hold counts, though a later one does not hold either.
        self.wrong(0, ('meeting', MIXED, ((5, None), (5, 0)), (0, 1), ((4, 1), (5, 0))),
                   ('key', BIT, ((None,), (0,)), ((0,),), ((1,), (1,))), ('crowd', BIT, ((0,), (1,)), (0,), (0,)),
                   ('against', 3, RULES, 'sure', (0, 1), ((0, 0, 0), (0, 0, 0), (0, 0, 0))),
                   ('exact', 3, RULES, ((0, 0),)))
        self.wrong(1, ('against', 3, RULES, 'sure', (0, 1), ((None, 0, 0), (1, 0, 0))))

    def test_values_of_all_kinds_are_wrong(self):
        for example in EXAMPLES:
            for value in WRONG_EVERYWHERE:
                self.assertEqual(check(example[:-1] + (value,)), ('wrong', 0), (example[0], value))


class BesideTheSecondCheckerTest(Cases):

    def test_own_certificates(self):
        counted = Counter()
        for value in each_own_certificate(80, seed=71):
            self.right(value)
            counted[value[0]] += 1
        for word in FORMS:
            self.assertGreater(counted[word], 20, word)

    def test_own_certificates_of_a_desk(self):
        desk = Desk(((0, 1), (0, 1, 2)))
        for row in [(None, 0), (0, None), (None, None)]:
            desk.put(row)
        desk.demand((0, 1))
        self.right(('key', ((0, 1), (0, 1, 2)), desk.table, desk.demands, desk.world()))
        with self.assertRaises(errors.Impossible) as caught:
            desk.demand((0,))
        self.right(('tree', ((0, 1), (0, 1, 2)), desk.table, desk.demands + ((0,),), caught.exception.tree))
        with self.assertRaises(errors.Impossible) as caught:
            desk.fill(0, 0, 0) or desk.fill(1, 1, 0)
        table = ((0, 0), (0, 0), (None, None))
        self.right(('tree', ((0, 1), (0, 1, 2)), table, desk.demands, caught.exception.tree))

    def test_changed_examples(self):
        counted = Counter()
        for example in EXAMPLES:
            for value in changed_somewhere(example, OTHERS):
                expected = certificate_outcome(value)
                self.assertEqual(outcome(value), expected, value)
                counted[expected] += 1
        for expected in [RIGHT, ('wrong', 0), ('wrong', 1), ('wrong', 2), errors.NotACertificate, errors.InvalidColumns,
                         errors.InvalidTable, errors.InvalidSet, errors.InvalidDemand, errors.InvalidNumber,
                         errors.InvalidRules, errors.InvalidKind]:
            self.assertGreater(counted[expected], 10 if expected != ('wrong', 2) else 2, expected)

    def test_changed_own_certificates(self):
        draw = random.Random(72)
        counted = Counter()
        for value in each_own_certificate(12, seed=73):
            # What is shown is changed everywhere; the other entries in a few places.
            changed = [value[:-1] + (shown,) for shown in changed_somewhere(value[-1], [0, 1, 3, None, (), [0]])]
            for other in draw.sample(changed, min(60, len(changed))) + [value]:
                expected = certificate_outcome(other)
                self.assertEqual(outcome(other), expected, other)
                counted[(value[0], expected)] += 1
        for word in FORMS:
            for expected in [RIGHT, ('wrong', 0)]:
                self.assertGreater(counted[(word, expected)], 5, (word, expected))
        for word in ('meeting', 'key', 'crowd', 'against', 'exact'):
            self.assertGreater(counted[(word, ('wrong', 1))], 5, word)
        self.assertGreater(counted[('against', ('wrong', 2))], 5)


class RefusalsTest(Cases):

    def test_any_value(self):
        self.raises_exactly(errors.NotACertificate, *WRONG_EVERYWHERE)
        self.raises_exactly(errors.NotACertificate, (), ('key',), ('Key', 0, 0, 0, 0), ('', 0, 0, 0, 0), (None,) * 5,
                            (0,) * 5, ((),) * 5, ([],) * 5, (['key'], 0, 0, 0, 0), (('key',), 0, 0, 0, 0), 'key', 'keyed')

    def test_lists_and_other_lengths(self):
        for example in EXAMPLES:
            self.raises_exactly(errors.NotACertificate, list(example), example[:-1], example + (0,), example + example,
                                example[1:], example[:1], example[0], (example,), (example[0].upper(),) + example[1:],
                                ('keys',) + example[1:], (None,) + example[1:], ([example[0]],) + example[1:])

    def test_words_of_other_lengths(self):
        for word, length in FORMS.items():
            for other in set(FORMS.values()) | {1, 2, 3, 7, 8}:
                value = (word,) + (None,) * (other - 1)
                expected = errors.InvalidColumns if word in ('meeting', 'key', 'crowd', 'tree') else errors.InvalidNumber
                self.raises_exactly(expected if other == length else errors.NotACertificate, value)

    def with_wrong(self, example, *numbers):
        """The certificate with values that are right for none of these entries."""
        return tuple([[]] if k in numbers else entry for k, entry in enumerate(example))

    def test_errors_in_their_order(self):
        tables = [errors.InvalidColumns, errors.InvalidTable]
        rules = [errors.InvalidNumber, errors.InvalidRules]
        expected = {
            'meeting': tables + [errors.InvalidSet], 'key': tables + [errors.InvalidDemand],
            'crowd': tables + [errors.InvalidSet], 'tree': tables + [errors.InvalidDemand],
            'reason': rules + [errors.InvalidKind, errors.InvalidSet],
            'against': rules + [errors.InvalidKind, errors.InvalidSet], 'exact': rules, 'choices': rules,
        }
        for example in EXAMPLES:
            raised = expected[example[0]]
            for first in range(len(raised)):
                for bits in range(2 ** (len(raised) - first)):
                    later = [first + 1 + k for k in range(len(raised) - first) if bits >> k & 1]
                    value = self.with_wrong(example, first + 1, *later)
                    self.raises_exactly(raised[first], value, value[:-1] + (None,))

    def test_arguments_that_fit_others_only(self):
        self.raises_exactly(errors.InvalidTable, ('key', BIT, ((2,),), ((0,),), ((1,),)))
        self.raises_exactly(errors.InvalidTable, ('key', BIT, ((0,),) * 9, ((0,),), None))
        self.raises_exactly(errors.InvalidSet, ('crowd', BIT, ((0,),), (1,), None))
        self.raises_exactly(errors.InvalidDemand, ('tree', BIT, ((0,),), ((0,), (1,)), None))
        self.raises_exactly(errors.InvalidRules, ('exact', 2, RULES, None))
        self.raises_exactly(errors.InvalidNumber, ('exact', True, RULES, None), ('exact', 5, RULES, None))
        self.raises_exactly(errors.InvalidSet, ('reason', 3, RULES, 'sure', (3,), None))
        self.raises_exactly(errors.InvalidKind, ('reason', 3, RULES, 'key', (0,), None))


if __name__ == '__main__':
    unittest.main()
