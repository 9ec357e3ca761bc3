"""What all functions of columns promise of their arguments: the errors in order, nothing changed, the same again."""

import copy
import inspect
import unittest
from itertools import product

from surekeys import columns as columns_file
from surekeys import errors, meeting, worlds
from tests.samples import WRONG_EVERYWHERE

MIXED = (None, (0, 1))
TABLE = ((5, None), (5, 0), (6, 0))
RIGHT = {'columns': MIXED, 'table': TABLE, 'i': 0, 'j': 1, 'some': (0,), 'value': ((5, 1), (5, 0), (6, 0))}
WRONG = {
    'columns': WRONG_EVERYWHERE + [(), (None,) * 5, [None, (0, 1)], (None, (1, 0)), (None, (0, 1, 2, 3)), (None, ())],
    'table': WRONG_EVERYWHERE + [((5, 2),), ((5,),), ((5, 0),) * 9, ((None, 0),) * 7, [(5, 0)]],
    'i': WRONG_EVERYWHERE + [3, 4, (0,)],
    'j': WRONG_EVERYWHERE + [3, 4, (0,)],
    'some': WRONG_EVERYWHERE + [(2,), (1, 0), (0, 0), (0, 1, 2), 0],
}
ERRORS = {
    'columns': errors.InvalidColumns, 'table': errors.InvalidTable, 'i': errors.InvalidNumber,
    'j': errors.InvalidNumber, 'some': errors.InvalidSet,
}
# A few wrong values of each, to be combined: all of them together would be too many.
FEW = {
    'columns': [[None], (), (None, True)], 'table': [[], ((5, 2),), ((True, 0),)], 'i': [True, -1, 3, '0'],
    'j': [False, -1, 3, [0]], 'some': [0, [0], (2,), (1, 0), (True,)],
}
INTERFACE = [
    (columns_file, 'is_columns', ['value']), (columns_file, 'is_row', ['columns', 'value']),
    (columns_file, 'is_table', ['columns', 'value']), (columns_file, 'is_set', ['columns', 'value']),
    (columns_file, 'is_demand', ['columns', 'value']), (worlds, 'is_world', ['columns', 'table', 'value']),
    (worlds, 'is_key', ['columns', 'table', 'some']), (worlds, 'world_count', ['columns', 'table']),
    (meeting, 'can_meet', ['columns', 'table', 'i', 'j', 'some']), (meeting, 'meetings', ['columns', 'table', 'some']),
    (meeting, 'is_sure', ['columns', 'table', 'some']), (meeting, 'meeting_world', ['columns', 'table', 'some']),
]


def each_function():
    for file, name, names in INTERFACE:
        yield getattr(file, name), names


def right_arguments(function, names):
    # A key is asked of a world only.
    table = ((5, 0), (6, 1)) if function.__name__ == 'is_key' else TABLE
    right = dict(RIGHT, table=table)
    return [right[name] for name in names]


class InterfaceTest(unittest.TestCase):

    def test_names_and_files(self):
        for file, name, names in INTERFACE:
            function = getattr(file, name)
            self.assertTrue(inspect.isfunction(function))
            self.assertEqual((function.__name__, function.__module__), (name, file.__name__))
            self.assertEqual(list(inspect.signature(function).parameters), names)


class WrongArgumentsTest(unittest.TestCase):

    def raises_exactly(self, error, function, arguments):
        with self.assertRaises(errors.KeyRuleError) as caught:
            function(*arguments)
        self.assertIs(type(caught.exception), error, (function.__name__, arguments))

    def test_one_wrong_argument(self):
        for function, names in each_function():
            for at, name in enumerate(names):
                if name == 'value':
                    continue
                for wrong in WRONG[name]:
                    arguments = right_arguments(function, names)
                    arguments[at] = wrong
                    self.raises_exactly(ERRORS[name], function, arguments)

    def test_several_wrong_arguments(self):
        for function, names in each_function():
            asked = [name for name in names if name != 'value']
            for chosen in product(*[[None] + FEW[name] for name in asked]):
                self.first_wrong_counts(function, names, asked, chosen)

    def first_wrong_counts(self, function, names, asked, chosen):
        # Here, None leaves the argument right.
        arguments = right_arguments(function, names)
        first = None
        for name, wrong in zip(asked, chosen):
            if wrong is not None:
                arguments[names.index(name)] = wrong
                first = first or name
        if first:
            self.raises_exactly(ERRORS[first], function, arguments)

    def test_any_value_does_not_come_first(self):
        for function in (columns_file.is_row, columns_file.is_table, columns_file.is_set, columns_file.is_demand):
            for value in WRONG_EVERYWHERE:
                self.raises_exactly(errors.InvalidColumns, function, ([], value))
        for value in WRONG_EVERYWHERE:
            self.raises_exactly(errors.InvalidColumns, worlds.is_world, (None, None, value))
            self.raises_exactly(errors.InvalidTable, worlds.is_world, (MIXED, None, value))

    def test_right_for_other_columns_only(self):
        self.raises_exactly(errors.InvalidTable, meeting.is_sure, ((None,), TABLE, (0,)))
        self.raises_exactly(errors.InvalidSet, meeting.is_sure, ((None,), ((5,),), (1,)))
        self.raises_exactly(errors.InvalidTable, meeting.is_sure, ((None, (1, 2)), TABLE, (0,)))

    def test_invalid_world_comes_last(self):
        self.raises_exactly(errors.InvalidWorld, worlds.is_key, (MIXED, TABLE, (0,)))
        self.raises_exactly(errors.InvalidSet, worlds.is_key, (MIXED, TABLE, (2,)))
        self.raises_exactly(errors.InvalidTable, worlds.is_key, (MIXED, TABLE + ((5,),), (0,)))
        self.raises_exactly(errors.InvalidColumns, worlds.is_key, ((), TABLE, (0,)))

    def test_numbers_of_rows(self):
        for i in (2, 7, -1, -2, True, False):
            self.raises_exactly(errors.InvalidNumber, meeting.can_meet, (MIXED, ((5, 0), (5, 1)), i, 0, (0,)))
            self.raises_exactly(errors.InvalidNumber, meeting.can_meet, (MIXED, ((5, 0), (5, 1)), 0, i, (0,)))
            self.raises_exactly(errors.InvalidNumber, meeting.can_meet, (MIXED, ((5, 0), (5, 1)), i, 0, (9,)))
        self.raises_exactly(errors.InvalidNumber, meeting.can_meet, (MIXED, (), 0, 0, (0,)))
        self.raises_exactly(errors.InvalidSet, meeting.can_meet, (MIXED, ((5, 0), (5, 1)), 1, 1, (9,)))


class CallsTest(unittest.TestCase):

    def outcome(self, function, arguments):
        try:
            return function(*arguments)
        except errors.KeyRuleError as error:
            return type(error)

    def each_call(self):
        for function, names in each_function():
            yield function, right_arguments(function, names)
            for at in range(len(names)):
                for value in WRONG_EVERYWHERE:
                    arguments = right_arguments(function, names)
                    arguments[at] = value
                    yield function, arguments

    def test_arguments_are_as_before(self):
        for function, arguments in self.each_call():
            before = copy.deepcopy(arguments)
            self.outcome(function, arguments)
            self.assertEqual(repr(arguments), repr(before))

    def test_the_same_again(self):
        for function, arguments in self.each_call():
            first = self.outcome(function, arguments)
            again = self.outcome(function, copy.deepcopy(arguments))
            self.assertEqual(repr(first), repr(again))

    def test_new_lists(self):
        arguments = (MIXED, TABLE, (0, 1))
        first, again = meeting.meetings(*arguments), meeting.meetings(*arguments)
        self.assertEqual(first, again)
        self.assertIsNot(first, again)
        self.assertIsNot(meeting.meetings(MIXED, (), ()), meeting.meetings(MIXED, (), ()))

    def test_kinds_of_results(self):
        for function, arguments in self.each_call():
            result = self.outcome(function, arguments)
            if function.__name__.startswith('is_') or function.__name__ == 'can_meet':
                wrong = isinstance(result, type) and issubclass(result, errors.KeyRuleError)
                self.assertTrue(wrong or isinstance(result, bool), function.__name__)


if __name__ == '__main__':
    unittest.main()
