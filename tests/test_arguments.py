"""What all functions promise of their arguments: the errors in order, nothing changed, the same again, new lists."""

import copy
import inspect
import unittest
from itertools import product

from surekeys import columns as columns_file
from surekeys import (bars, changes, checker, counts, crowds, entries, errors, exact, faults, finding, kept, meeting, papers,
                      rules, several, worlds, worthy)
from tests.samples import WRONG_EVERYWHERE

MIXED = (None, (0, 1))
TABLE = ((5, None), (5, 0), (6, 0))
OF_ANY_VALUE = [(columns_file, 'is_columns', ['value']), (checker, 'check', ['certificate']),
                (papers, 'check_paper', ['paper'])]
OF_TABLES = [
    (columns_file, 'is_row', ['columns', 'value']), (columns_file, 'is_table', ['columns', 'value']),
    (columns_file, 'is_set', ['columns', 'value']), (columns_file, 'is_demand', ['columns', 'value']),
    (worlds, 'is_world', ['columns', 'table', 'value']), (worlds, 'is_key', ['columns', 'table', 'some']),
    (worlds, 'world_count', ['columns', 'table']), (meeting, 'can_meet', ['columns', 'table', 'i', 'j', 'some']),
    (meeting, 'meetings', ['columns', 'table', 'some']), (meeting, 'is_sure', ['columns', 'table', 'some']),
    (meeting, 'meeting_world', ['columns', 'table', 'some']), (crowds, 'is_possible', ['columns', 'table', 'some']),
    (crowds, 'key_world', ['columns', 'table', 'some']), (crowds, 'crowd', ['columns', 'table', 'some']),
    (crowds, 'is_crowd', ['columns', 'table', 'some', 'value']),
    (several, 'common_world', ['columns', 'table', 'demand']), (several, 'twin_tree', ['columns', 'table', 'demand']),
    (several, 'is_twin_tree', ['columns', 'table', 'demand', 'value']),
    (entries, 'barred', ['columns', 'table', 'demand', 'i', 'column']),
    (entries, 'settled', ['columns', 'table', 'demand']), (finding, 'differences', ['columns', 'table']),
    (finding, 'least_sure', ['columns', 'table']), (finding, 'least_possible', ['columns', 'table']),
]
OF_RULES = [
    (rules, 'is_rules', ['many', 'value']), (rules, 'obeys', ['many', 'rules', 'value']),
    (rules, 'follows', ['many', 'rules', 'kind', 'some']), (rules, 'reason', ['many', 'rules', 'kind', 'some']),
    (rules, 'against', ['many', 'rules', 'kind', 'some']), (bars, 'least_keys', ['many', 'rules', 'kind']),
    (bars, 'bars', ['many', 'rules', 'kind']), (exact, 'choices', ['many', 'rules', 'some']),
    (exact, 'exact', ['many', 'rules']), (exact, 'choice_tree', ['many', 'rules']),
    (exact, 'is_exact', ['many', 'rules', 'value']), (exact, 'is_choice_tree', ['many', 'rules', 'value']),
]
OF_ROWS = [
    (kept, 'is_keepable', ['columns', 'table', 'some', 'rows']), (kept, 'greatest_kept', ['columns', 'table', 'some']),
    (kept, 'kept_world', ['columns', 'table', 'some', 'rows']), (kept, 'grown', ['columns', 'table', 'some', 'rows']),
    (kept, 'exchange', ['columns', 'table', 'some', 'few', 'many']), (kept, 'spared', ['columns', 'table', 'some']),
    (worthy, 'most_worth', ['columns', 'table', 'some', 'worths']),
    (worthy, 'blocks_of', ['columns', 'table', 'some', 'worths', 'rows']),
    (changes, 'are_changes', ['columns', 'table', 'held', 'value']), (changes, 'changed', ['columns', 'table', 'changes']),
    (changes, 'fewest_changes', ['columns', 'table', 'held', 'some']),
    (changes, 'stuck_rows', ['columns', 'table', 'held', 'some']), (changes, 'prices', ['columns', 'table', 'held', 'some']),
    (changes, 'are_prices', ['columns', 'table', 'held', 'some', 'value']),
    (counts, 'kept_count', ['columns', 'table', 'demand']), (counts, 'count_tree', ['columns', 'table', 'demand']),
    (counts, 'tree_number', ['columns', 'table', 'demand', 'value']),
    (counts, 'value_counts', ['columns', 'table', 'demand']),
]
INTERFACE = OF_ANY_VALUE + OF_TABLES + OF_RULES + OF_ROWS
RETURN_LISTS = ['meetings', 'barred', 'settled', 'differences', 'least_sure', 'least_possible', 'least_keys', 'bars',
                'choices', 'value_counts']
RETURN_BOOLS = ['can_meet', 'obeys', 'follows', 'are_changes', 'are_prices']

RIGHT = {
    'columns': MIXED, 'table': TABLE, 'i': 0, 'j': 1, 'column': 1, 'some': (0,), 'demand': ((0, 1), (0,)),
    'many': 3, 'rules': ((0,), ((0, 1),), ((0, 2),)), 'kind': 'sure', 'value': ((5, 1), (5, 0), (6, 0)),
    'certificate': ('key', MIXED, TABLE, ((0, 1),), ((5, 1), (5, 0), (6, 0))),
    'rows': (0, 2), 'few': (1,), 'many rows': (0, 2), 'worths': (3, 0, 10 ** 29),
    'held': ((0, 0), (1, 1)), 'changes': ((1, 0, 6), (2, 1, 1)), 'paper': ('stuck', MIXED, TABLE, (), (), (0, 1)),
}
WRONG = {
    'columns': WRONG_EVERYWHERE + [(), (None,) * 5, [None, (0, 1)], (None, (1, 0)), (None, (0, 1, 2, 3)), (None, ())],
    'table': WRONG_EVERYWHERE + [((5, 2),), ((5,),), ((5, 0),) * 9, ((None, 0),) * 7, [(5, 0)]],
    'i': WRONG_EVERYWHERE + [3, 4, (0,)],
    'j': WRONG_EVERYWHERE + [3, 4, (0,)],
    'column': WRONG_EVERYWHERE + [2, 3, (0,)],
    'some': WRONG_EVERYWHERE + [(3,), (1, 0), (0, 0), (0, 1, 2, 3), 0],
    'demand': WRONG_EVERYWHERE + [((2,),), ((1, 0),), ((0,),) * 5, [(0,)], ([0],), (0,), ((0,), (0, 0))],
    'many': WRONG_EVERYWHERE + [0, 5, (3,), '3', [3]],
    'rules': WRONG_EVERYWHERE + [(), ((), ()), ((), (), (), ()), ((3,), (), ()), ((1, 0), (), ()), [(), (), ()],
                                 ((), [], ()), ((), ((0,),) * 7, ()), ((), (), ((0,),) * 7), ((), ((True,),), ())],
    'kind': [value for value in WRONG_EVERYWHERE if value != 'sure'] + ['Sure', ('sure',), ['possible'], 0, 1],
    'certificate': WRONG_EVERYWHERE + ['key', ('key',), list(RIGHT['certificate']), RIGHT['certificate'] + (0,)],
    'rows': WRONG_EVERYWHERE + [(3,), (1, 0), (0, 0), (0, 1, 2, 3), 0, (0, True)],
    'few': WRONG_EVERYWHERE + [(3,), (1, 0), (0, 0), (0, 1, 2, 3), 0, (0, True)],
    'many rows': WRONG_EVERYWHERE + [(3,), (1, 0), (0, 0), (0, 1, 2, 3), 0, (0, True)],
    'worths': WRONG_EVERYWHERE + [(), (1, 2), (1, 2, 3, 4), (1, 2, -1), (1, 2, True), [1, 2, 3], (1, 2, None), 3],
    'held': WRONG_EVERYWHERE + [
        ((0, 1),), ((3, 0),), ((0, 2),), ((0, 0), (0, 0)), ((1, 1), (0, 0)), [(0, 0)], ([0, 0],), ((0, False),), ((0,),),
        ((0, 0, 0),), (0, 0), ((-1, 0),), 0],
    'changes': WRONG_EVERYWHERE + [
        ((0, 1, 0),), ((0, 0, 5),), ((1, 1, 2),), ((1, 0, 6), (1, 0, 7)), ((1, 1, 1), (1, 0, 6)), [(1, 0, 6)], ([1, 0, 6],),
        ((1, 0),), ((1, 0, 6, 6),), (1, 0, 6), ((True, 0, 6),), ((1, 1, True),), ((3, 0, 6),), ((1, 0, None),), 0],
    'paper': WRONG_EVERYWHERE + ['stuck', ('stuck',), list(RIGHT['paper']), RIGHT['paper'] + (0,), RIGHT['certificate']],
}
ERRORS = {
    'columns': errors.InvalidColumns, 'table': errors.InvalidTable, 'i': errors.InvalidNumber,
    'j': errors.InvalidNumber, 'column': errors.InvalidNumber, 'some': errors.InvalidSet,
    'demand': errors.InvalidDemand, 'many': errors.InvalidNumber, 'rules': errors.InvalidRules,
    'kind': errors.InvalidKind, 'certificate': errors.NotACertificate, 'rows': faults.InvalidRows,
    'few': faults.InvalidRows, 'many rows': faults.InvalidRows, 'worths': faults.InvalidWorths,
    'held': faults.InvalidHeld, 'changes': faults.InvalidChanges, 'paper': faults.NotAPaper,
}
# A few wrong values of each, to be combined: all of them together would be too many.
FEW = {
    'columns': [[None], (), (None, True)], 'table': [[], ((5, 2),), ((True, 0),)], 'i': [True, -1, 3, '0'],
    'j': [False, -1, 3, [0]], 'column': [True, -1, 2], 'some': [0, [0], (3,), (1, 0), (True,)],
    'demand': [[], ((3,),), ((0,),) * 5], 'many': [0, 5, True, '3'], 'rules': [(), ((), (), []), ((4,), (), ())],
    'kind': ['Sure', 0, ()], 'certificate': [(), 'key', ('key', MIXED, TABLE)], 'rows': [0, (3,), (1, 0), (True,)],
    'few': [0, (3,), (1, 0)], 'many rows': [0, (3,), (1, 0)], 'worths': [(1, 2), (1, 2, True), [1, 2, 3]],
    'held': [((0, 1),), [(0, 0)], ((1, 1), (0, 0))], 'changes': [((0, 1, 0),), [], ((0, 0, 5),)],
    'paper': [(), 'stuck', RIGHT['paper'][:5]],
}


def each_function():
    """Each function of the interface, and what is asked of its arguments, by their names for the most part."""
    for file, name, names in INTERFACE:
        # Only here, many is not a number of columns.
        asked = ['many rows' if (name, argument) == ('exchange', 'many') else argument for argument in names]
        yield getattr(file, name), asked


def right_arguments(function, names):
    right = dict(RIGHT)
    # A key is asked of a world only.
    if function.__name__ == 'is_key':
        right['table'] = ((5, 0), (6, 1))
    # Choices are asked of a bar only.
    if function.__name__ == 'choices':
        right['some'] = (0, 2)
    return [right[name] for name in names]


class InterfaceTest(unittest.TestCase):

    def test_names_and_files(self):
        for file, name, names in INTERFACE:
            function = getattr(file, name)
            self.assertTrue(inspect.isfunction(function))
            self.assertEqual((function.__name__, function.__module__), (name, file.__name__))
            self.assertEqual(list(inspect.signature(function).parameters), names)


class WrongArgumentsTest(unittest.TestCase):

    def raises_exactly(self, error, function, arguments):
        with self.assertRaises(errors.KeyRuleError) as caught:
            function(*arguments)
        self.assertIs(type(caught.exception), error, (function.__name__, arguments))

    def test_right_arguments(self):
        for function, names in each_function():
            function(*right_arguments(function, names))

    def test_one_wrong_argument(self):
        for function, names in each_function():
            for at, name in enumerate(names):
                if name == 'value':
                    continue
                for wrong in WRONG[name]:
                    arguments = right_arguments(function, names)
                    arguments[at] = wrong
                    self.raises_exactly(ERRORS[name], function, arguments)

    def test_several_wrong_arguments(self):
        for function, names in each_function():
            asked = [name for name in names if name != 'value']
            for chosen in product(*[[None] + FEW[name] for name in asked]):
                self.first_wrong_counts(function, names, asked, chosen)

    def first_wrong_counts(self, function, names, asked, chosen):
        # At the first place of each list, None leaves the argument right.
        arguments = right_arguments(function, names)
        first = None
        for name, wrong in zip(asked, chosen):
            if wrong is not None:
                arguments[names.index(name)] = wrong
                first = first or name
        if first:
            self.raises_exactly(ERRORS[first], function, arguments)

    def test_any_value_does_not_come_first(self):
        for value in WRONG_EVERYWHERE:
            for function in (columns_file.is_row, columns_file.is_table, columns_file.is_set, columns_file.is_demand):
                self.raises_exactly(errors.InvalidColumns, function, ([], value))
            self.raises_exactly(errors.InvalidColumns, worlds.is_world, (None, None, value))
            self.raises_exactly(errors.InvalidTable, worlds.is_world, (MIXED, None, value))
            self.raises_exactly(errors.InvalidSet, crowds.is_crowd, (MIXED, TABLE, None, value))
            self.raises_exactly(errors.InvalidDemand, several.is_twin_tree, (MIXED, TABLE, None, value))
            self.raises_exactly(errors.InvalidNumber, rules.is_rules, (0, value))
            self.raises_exactly(errors.InvalidRules, rules.obeys, (3, None, value))
            self.raises_exactly(errors.InvalidRules, exact.is_exact, (3, None, value))
            self.raises_exactly(errors.InvalidRules, exact.is_choice_tree, (3, None, value))

    def test_right_for_other_columns_only(self):
        self.raises_exactly(errors.InvalidTable, meeting.is_sure, ((None,), TABLE, (0,)))
        self.raises_exactly(errors.InvalidSet, meeting.is_sure, ((None,), ((5,),), (1,)))
        self.raises_exactly(errors.InvalidTable, meeting.is_sure, ((None, (1, 2)), TABLE, (0,)))
        self.raises_exactly(errors.InvalidSet, crowds.crowd, ((None,), ((5,),), (0, 1)))
        self.raises_exactly(errors.InvalidDemand, several.twin_tree, ((None,), ((5,),), ((0,), (1,))))
        self.raises_exactly(errors.InvalidNumber, entries.barred, ((None,), ((None,),), ((0,),), 0, 1))
        self.raises_exactly(errors.InvalidNumber, entries.barred, ((None,), ((None,),), ((0,),), 1, 0))
        self.raises_exactly(errors.InvalidRules, rules.follows, (2, RIGHT['rules'], 'sure', (0,)))
        self.raises_exactly(errors.InvalidSet, rules.follows, (2, ((), (), ()), 'sure', (2,)))

    def test_invalid_world_comes_last(self):
        self.raises_exactly(errors.InvalidWorld, worlds.is_key, (MIXED, TABLE, (0,)))
        self.raises_exactly(errors.InvalidSet, worlds.is_key, (MIXED, TABLE, (2,)))
        self.raises_exactly(errors.InvalidTable, worlds.is_key, (MIXED, TABLE + ((5,),), (0,)))
        self.raises_exactly(errors.InvalidColumns, worlds.is_key, ((), TABLE, (0,)))

    def test_invalid_entry_comes_last(self):
        self.raises_exactly(errors.InvalidEntry, entries.barred, (MIXED, TABLE, ((0,),), 0, 0))
        self.raises_exactly(errors.InvalidNumber, entries.barred, (MIXED, TABLE, ((0,),), 0, 2))
        self.raises_exactly(errors.InvalidNumber, entries.barred, (MIXED, TABLE, ((0,),), 3, 0))
        self.raises_exactly(errors.InvalidDemand, entries.barred, (MIXED, TABLE, (0,), 0, 0))
        self.raises_exactly(errors.InvalidTable, entries.barred, (MIXED, None, ((0,),), 0, 0))

    def test_a_set_that_is_no_bar_comes_last(self):
        rules_of_three = RIGHT['rules']
        self.raises_exactly(errors.InvalidSet, exact.choices, (3, rules_of_three, (0, 1)))
        self.raises_exactly(errors.InvalidRules, exact.choices, (2, rules_of_three, (0, 1)))
        self.raises_exactly(errors.InvalidNumber, exact.choices, (0, rules_of_three, (0, 1)))

    def test_rows_that_are_not_keepable_come_last(self):
        self.raises_exactly(faults.InvalidRows, kept.grown, (MIXED, TABLE, (0,), (0, 1)))
        self.raises_exactly(errors.InvalidSet, kept.grown, (MIXED, TABLE, (2,), (0, 1)))
        self.raises_exactly(errors.InvalidTable, kept.grown, (MIXED, TABLE[0], (0,), (0, 1)))
        self.raises_exactly(faults.InvalidRows, kept.exchange, (MIXED, TABLE, (0,), (0, 1), (0, 1)))
        self.raises_exactly(errors.InvalidSet, kept.exchange, (MIXED, TABLE, 0, (0, 1), (0, 1)))
        self.raises_exactly(errors.InvalidColumns, kept.exchange, ((), TABLE, 0, (0, 1), (0, 1)))

    def test_held_entries_come_before_the_set(self):
        for function in (changes.fewest_changes, changes.stuck_rows, changes.prices):
            self.raises_exactly(faults.InvalidHeld, function, (MIXED, TABLE, ((0, 1),), (2,)))
            self.raises_exactly(errors.InvalidSet, function, (MIXED, TABLE, ((0, 0),), (2,)))
            self.raises_exactly(errors.InvalidTable, function, (MIXED, TABLE[0], ((0, 1),), (2,)))
        self.raises_exactly(faults.InvalidHeld, changes.are_prices, (MIXED, TABLE, ((0, 1),), (2,), None))
        self.raises_exactly(errors.InvalidSet, changes.are_prices, (MIXED, TABLE, (), (2,), None))
        self.raises_exactly(faults.InvalidHeld, changes.are_changes, (MIXED, TABLE, ((0, 1),), None))
        self.raises_exactly(errors.InvalidTable, changes.changed, (MIXED, None, None))

    def test_numbers_of_rows(self):
        for i in (2, 7, -1, -2, True, False):
            self.raises_exactly(errors.InvalidNumber, meeting.can_meet, (MIXED, ((5, 0), (5, 1)), i, 0, (0,)))
            self.raises_exactly(errors.InvalidNumber, meeting.can_meet, (MIXED, ((5, 0), (5, 1)), 0, i, (0,)))
            self.raises_exactly(errors.InvalidNumber, meeting.can_meet, (MIXED, ((5, 0), (5, 1)), i, 0, (9,)))
            self.raises_exactly(errors.InvalidNumber, entries.barred, (MIXED, ((5, None), (5, 1)), (), i, 1))
            self.raises_exactly(errors.InvalidNumber, entries.barred, (MIXED, ((5, None), (5, None)), (), 0, i))
        self.raises_exactly(errors.InvalidNumber, meeting.can_meet, (MIXED, (), 0, 0, (0,)))
        self.raises_exactly(errors.InvalidNumber, entries.barred, (MIXED, (), (), 0, 0))
        self.raises_exactly(errors.InvalidSet, meeting.can_meet, (MIXED, ((5, 0), (5, 1)), 1, 1, (9,)))


class CallsTest(unittest.TestCase):

    def outcome(self, function, arguments):
        try:
            return function(*arguments)
        except errors.KeyRuleError as error:
            return type(error)

    def each_call(self):
        for function, names in each_function():
            yield function, right_arguments(function, names)
            for at in range(len(names)):
                for value in WRONG_EVERYWHERE:
                    arguments = right_arguments(function, names)
                    arguments[at] = value
                    yield function, arguments

    def test_arguments_are_as_before(self):
        for function, arguments in self.each_call():
            before = copy.deepcopy(arguments)
            self.outcome(function, arguments)
            self.assertEqual(repr(arguments), repr(before))

    def test_the_same_again(self):
        for function, arguments in self.each_call():
            first = self.outcome(function, arguments)
            again = self.outcome(function, copy.deepcopy(arguments))
            self.assertEqual(repr(first), repr(again))

    def test_new_lists(self):
        for function, names in each_function():
            arguments = right_arguments(function, names)
            first, again = function(*arguments), function(*arguments)
            self.assertEqual(isinstance(first, list), function.__name__ in RETURN_LISTS, function.__name__)
            if isinstance(first, list):
                self.assertIsNot(first, again)
                self.assertFalse(any(isinstance(entry, list) for entry in first))
                first.append('more')
                self.assertEqual(function(*arguments), again)
        self.assertIsNot(meeting.meetings(MIXED, (), ()), meeting.meetings(MIXED, (), ()))
        self.assertIsNot(entries.settled(MIXED, (), ()), entries.settled(MIXED, (), ()))
        self.assertIsNot(bars.bars(2, ((), ((),), ()), 'sure'), bars.bars(2, ((), ((),), ()), 'sure'))
        self.assertIsNot(finding.differences(MIXED, ()), finding.differences(MIXED, ()))
        self.assertIsNot(counts.value_counts(MIXED, (), ()), counts.value_counts(MIXED, (), ()))

    def test_kinds_of_results(self):
        for function, arguments in self.each_call():
            result = self.outcome(function, arguments)
            if function.__name__.startswith('is_') or function.__name__ in RETURN_BOOLS:
                wrong = isinstance(result, type) and issubclass(result, errors.KeyRuleError)
                self.assertTrue(wrong or isinstance(result, bool), function.__name__)


if __name__ == '__main__':
    unittest.main()
