"""surekeys.mender: each method of a mender, its refusals in their order, the rows that it keeps, and its marks."""

import inspect
import unittest

from surekeys.errors import (Full, InvalidColumns, InvalidEntry, InvalidMark, InvalidNumber, InvalidRow, InvalidSet,
                             InvalidValue, KeyRuleError)
from surekeys.mender import Mender
from tests.judges import block_is_right
from tests.samples import WRONG_EVERYWHERE, equal_rows

BIT = ((0, 1),)
BITS = ((0, 1), (0, 1))
MIXED = (None, (0, 1))
METHODS = {
    'put': ['row', 'worth'], 'take': ['name'], 'fill': ['name', 'column', 'value'], 'forget': ['name', 'column'],
    'world': [], 'block': ['name'], 'mark': [], 'back': ['number'],
}
PROPERTIES = ['table', 'row_names', 'worths', 'kept']


def mender_with(columns, some, *rows):
    """A mender into which rows were put, each a tuple (row, worth)."""
    mender = Mender(columns, some)
    for row, worth in rows:
        mender.put(row, worth)
    return mender


def told(mender):
    """All that a mender tells."""
    names = mender.row_names
    return mender.table, names, mender.worths, mender.kept, mender.world(), [mender.block(name) for name in names]


class Cases(unittest.TestCase):

    def refused(self, error, mender, method, *arguments):
        """The call raises exactly this error, and nothing changes. Returns the error."""
        before = told(mender)
        with self.assertRaises(KeyRuleError) as caught:
            getattr(mender, method)(*arguments)
        self.assertIs(type(caught.exception), error, (method, arguments))
        self.assertEqual(repr(told(mender)), repr(before))
        return caught.exception

    def full(self, limit, mender, method, *arguments):
        found = self.refused(Full, mender, method, *arguments)
        self.assertEqual((found.limit, type(found.limit)), (limit, int))

    def no_mark(self, mender, value):
        self.assertIs(self.refused(InvalidMark, mender, 'back', value).number, value)


class InterfaceTest(Cases):

    def test_methods_stand_in_the_class(self):
        for name, parameters in METHODS.items():
            method = Mender.__dict__[name]
            self.assertTrue(inspect.isfunction(method), name)
            self.assertEqual(list(inspect.signature(method).parameters)[1:], parameters)
        for name in PROPERTIES:
            self.assertIsInstance(Mender.__dict__[name], property)
        self.assertEqual((Mender.__module__, Mender.__name__), ('surekeys.mender', 'Mender'))
        self.assertEqual(list(inspect.signature(Mender).parameters), ['columns', 'some'])

    def test_example(self):
        mender = Mender(BIT, (0,))
        names = [mender.put((0,), 5), mender.put((None,), 1), mender.put((1,), 9)]
        self.assertEqual(names, [0, 1, 2])
        self.assertEqual([mender.kept, mender.block(1), mender.world()], [(0, 2), (0, 1, 2), ((0,), (1,))])

    def test_new_mender(self):
        for columns, some in [(BIT, (0,)), (BIT, ()), (MIXED, (0, 1)), ((None,) * 4, (1, 3))]:
            mender = Mender(columns, some)
            self.assertEqual(told(mender), ((), (), (), (), (), []))
            self.no_mark(mender, 0)

    def test_wrong_columns_and_sets(self):
        wrong_columns = WRONG_EVERYWHERE + [(), (None,) * 5, [None], ((1, 0),), (None, ()), ((0, 1, 2, 3),)]
        wrong_sets = WRONG_EVERYWHERE + [(2,), (1, 0), (0, 0), [0], 0, (0, 1, 2), '0', None]
        for columns in wrong_columns:
            for some in [(0,), (9,), None]:
                with self.assertRaises(InvalidColumns):
                    Mender(columns, some)
        for some in wrong_sets:
            with self.assertRaises(InvalidSet):
                Mender(MIXED, some)

    def test_returned_values(self):
        mender = mender_with(MIXED, (0, 1), ((5, None), 3), ((None, 0), 4))
        self.assertIsNone(mender.fill(0, 1, 1))
        self.assertIsNone(mender.forget(0, 1))
        self.assertEqual(mender.mark(), 0)
        self.assertIsNone(mender.back(0))
        self.assertIsNone(mender.take(0))

    def test_properties(self):
        mender = mender_with(MIXED, (0,), ((5, None), 3), ((5, 0), 4), ((None, 0), 10 ** 30))
        mender.take(0)
        self.assertEqual([mender.table, mender.row_names, mender.worths, mender.kept],
                         [((5, 0), (None, 0)), (1, 2), (4, 10 ** 30), (1, 2)])
        for name in PROPERTIES:
            self.assertIs(type(getattr(mender, name)), tuple)
            with self.assertRaises(AttributeError):
                setattr(mender, name, ())


class KeptTest(Cases):

    def test_worths_decide(self):
        mender = mender_with(MIXED, (0,), ((5, 0), 3))
        for row, worth, kept in [((5, 1), 2, (0,)), ((5, 1), 3, (0,)), ((5, 1), 4, (3,)), ((6, 1), 0, (3, 4)),
                                 ((None, 1), 0, (3, 4, 5)), ((5, 0), 10 ** 30, (4, 5, 6))]:
            mender.put(row, worth)
            self.assertEqual(mender.kept, kept)

    def test_take_lets_in_the_best(self):
        mender = mender_with(MIXED, (0,), ((5, 0), 3), ((5, 0), 9), ((5, 1), 5), ((6, 0), 0), ((5, 1), 4))
        self.assertEqual(mender.kept, (1, 3))
        mender.take(1)
        self.assertEqual(mender.kept, (2, 3))
        mender.take(0)
        self.assertEqual(mender.kept, (2, 3))
        mender.take(3)
        self.assertEqual(mender.kept, (2,))
        mender.take(2)
        self.assertEqual(mender.kept, (4,))
        mender.take(4)
        self.assertEqual(mender.kept, ())

    def test_fill_and_forget(self):
        mender = mender_with(BIT, (0,), ((None,), 5), ((0,), 4), ((1,), 3))
        self.assertEqual(mender.kept, (0, 1))
        mender.fill(0, 0, 0)
        self.assertEqual(mender.kept, (0, 2))
        mender.forget(0, 0)
        self.assertEqual(mender.kept, (0, 1))
        mender.fill(0, 0, 1)
        self.assertEqual(mender.kept, (0, 1))
        self.assertEqual(mender.world(), ((1,), (0,)))

    def test_forget_lets_in_another_row(self):
        mender = mender_with((None,), (0,), ((5,), 5), ((5,), 4), ((5,), 3))
        self.assertEqual(mender.kept, (0,))
        mender.forget(0, 0)
        self.assertEqual(mender.kept, (0, 1))
        mender.forget(2, 0)
        self.assertEqual(mender.kept, (0, 1, 2))
        mender.fill(0, 0, 5)
        self.assertEqual(mender.kept, (0, 2))

    def test_rows_of_one_worth_stay(self):
        mender = mender_with(MIXED, (0,), ((5, 0), 3))
        for count in range(1, 6):
            mender.put((5, 1), 3)
            self.assertEqual(mender.kept, (0,))
        mender.take(0)
        kept = mender.kept
        self.assertEqual(len(kept), 1)
        mender.put((5, 1), 3)
        self.assertEqual(mender.kept, kept)

    def test_empty_set(self):
        mender = mender_with(MIXED, (), ((5, 0), 3), ((None, None), 7), ((6, 0), 5))
        self.assertEqual(mender.kept, (1,))
        self.assertEqual([mender.block(0), mender.block(1), mender.block(2)], [(0, 1), None, (1, 2)])
        mender.take(1)
        self.assertEqual((mender.kept, mender.world()), ((2,), ((6, 0),)))

    def test_blocks_have_names(self):
        mender = mender_with(BIT, (0,), ((0,), 1), ((0,), 2), ((1,), 5), ((None,), 2), ((0,), 9))
        mender.take(1)
        self.assertEqual((mender.row_names, mender.kept), ((0, 2, 3, 4), (2, 4)))
        self.assertEqual([mender.block(2), mender.block(4)], [None, None])
        self.assertIn(mender.block(0), [(0, 4)])
        self.assertEqual(mender.block(3), (2, 3, 4))
        self.assertTrue(block_is_right(BIT, mender.table, (0,), mender.worths, (1, 3), 2, (1, 2, 3)))

    def test_world_of_the_kept_rows_alone(self):
        mender = mender_with(MIXED, (0, 1), ((5, None), 1), ((5, 0), 7), ((5, 1), 3), ((None, 1), 0), ((6, None), 2))
        self.assertEqual(mender.kept, (1, 2, 3, 4))
        world = mender.world()
        self.assertEqual((world[0], world[1], world[2][1], world[3][0], len(world)), ((5, 0), (5, 1), 1, 6, 4))
        self.assertFalse(equal_rows(world, (0, 1)))


class RefusalsTest(Cases):

    def test_put(self):
        mender = mender_with(MIXED, (0,), ((5, 0), 1))
        for row in WRONG_EVERYWHERE + [(), (5,), (5, 0, 0), (5, 2), [5, 0], (-1, 0), (5, (0,)), ((5, 0),), None]:
            for worth in (3, -1, None):
                self.refused(InvalidRow, mender, 'put', row, worth)
        for worth in [value for value in WRONG_EVERYWHERE if value != 10 ** 30] + [-2, '3', (3,), [3], None, True, False]:
            self.refused(InvalidValue, mender, 'put', (6, 0), worth)
        self.assertEqual(mender.put((6, 0), 0), 1)

    def test_full_of_rows(self):
        mender = mender_with(MIXED, (0,), *[((k, None if k < 5 else 0), k) for k in range(8)])
        self.assertEqual(len(mender.table), 8)
        self.full(8, mender, 'put', (9, 0), 1)
        self.full(8, mender, 'put', (None, None), 1)
        self.refused(InvalidRow, mender, 'put', (9, 2), -1)
        self.refused(InvalidValue, mender, 'put', (9, 1), -1)
        mender.take(7)
        self.full(6, mender, 'put', (None, None), 1)
        self.refused(InvalidValue, mender, 'put', (None, None), True)
        self.assertEqual(mender.put((None, 0), 1), 8)
        self.full(8, mender, 'put', (0, 0), 1)

    def test_full_of_unknown_entries(self):
        mender = mender_with(MIXED, (0,), *[((None, None), 1)] * 3)
        self.full(6, mender, 'put', (None, 0), 1)
        self.full(6, mender, 'put', (0, None), 1)
        self.assertEqual(mender.put((0, 0), 1), 3)
        self.full(6, mender, 'forget', 3, 0)
        self.full(6, mender, 'forget', 3, 1)
        self.refused(InvalidEntry, mender, 'forget', 0, 1)
        mender.fill(0, 0, 4)
        mender.forget(3, 1)
        self.full(6, mender, 'forget', 3, 0)
        mender = mender_with((None,) * 4, (0,), ((None,) * 4, 1), ((None, 0, 0, 0), 1))
        self.full(6, mender, 'put', (None, None, 0, 0), 1)
        self.full(6, mender, 'put', (None,) * 4, 1)
        self.assertEqual(mender.put((None, 0, 0, 0), 1), 2)

    def test_names_that_are_not_there(self):
        mender = mender_with(MIXED, (0,), ((5, None), 1), ((6, 0), 1), ((7, 0), 1))
        mender.take(1)
        for name in WRONG_EVERYWHERE + [1, 3, 4, (0,), '0', [0], None]:
            self.refused(InvalidNumber, mender, 'take', name)
            self.refused(InvalidNumber, mender, 'block', name)
            for column in (1, 9, None):
                self.refused(InvalidNumber, mender, 'fill', name, column, -1)
                self.refused(InvalidNumber, mender, 'forget', name, column)

    def test_columns_that_are_not_there(self):
        mender = mender_with(MIXED, (0,), ((None, None), 1), ((5, 0), 1))
        for column in WRONG_EVERYWHERE + [2, 3, (0,), '0']:
            for name in (0, 1):
                self.refused(InvalidNumber, mender, 'fill', name, column, 0)
                self.refused(InvalidNumber, mender, 'fill', name, column, -1)
                self.refused(InvalidNumber, mender, 'forget', name, column)

    def test_known_and_unknown_entries(self):
        mender = mender_with(MIXED, (0,), ((5, None), 1), ((None, 0), 1))
        for name, column in ((0, 0), (1, 1)):
            for value in (0, 1, -1, None, 'x'):
                self.refused(InvalidEntry, mender, 'fill', name, column, value)
        for name, column in ((0, 1), (1, 0)):
            self.refused(InvalidEntry, mender, 'forget', name, column)

    def test_wrong_values(self):
        mender = mender_with(((3, 5), None), (0,), ((None, None), 1))
        for value in WRONG_EVERYWHERE + [0, 1, 2, 4, 6, (3,), '3', [3]]:
            self.refused(InvalidValue, mender, 'fill', 0, 0, value)
            if value not in (0, 1, 2, 4, 6, 10 ** 30) or isinstance(value, bool):
                self.refused(InvalidValue, mender, 'fill', 0, 1, value)
        mender.fill(0, 0, 5)
        mender.fill(0, 1, 10 ** 30)
        self.assertEqual(mender.table, ((5, 10 ** 30),))
        mender = mender_with(BIT, (0,), ((None,), 1))
        for value in (True, False, None, -1, 2):
            self.refused(InvalidValue, mender, 'fill', 0, 0, value)

    def test_refused_calls_use_no_name(self):
        mender = mender_with(MIXED, (0,), ((5, 0), 1))
        self.refused(InvalidRow, mender, 'put', (5, 2), 1)
        self.refused(InvalidValue, mender, 'put', (5, 1), -1)
        self.assertEqual(mender.put((5, 1), 1), 1)


class MarksTest(Cases):

    def test_numbers(self):
        mender = Mender(MIXED, (0,))
        self.assertEqual([mender.mark() for _ in range(6)], [0, 1, 2, 3, 4, 5])
        self.full(6, mender, 'mark')
        mender.back(5)
        self.full(6, mender, 'mark')
        mender.back(2)
        self.assertEqual([mender.mark() for _ in range(3)], [3, 4, 5])
        self.full(6, mender, 'mark')
        mender.back(0)
        self.assertEqual(mender.mark(), 1)

    def test_restored(self):
        mender = mender_with(MIXED, (1,), ((5, None), 4), ((None, 0), 3), ((6, 1), 3), ((6, 0), 3))
        before = told(mender)
        mender.mark()
        for change in [lambda: mender.fill(0, 1, 1), lambda: mender.forget(2, 1), lambda: mender.take(0),
                       lambda: mender.take(1), lambda: mender.put((7, 1), 9)]:
            change()
            self.assertNotEqual(told(mender), before)
            mender.back(0)
            self.assertEqual(told(mender), before)

    def test_which_rows_are_kept_is_restored(self):
        # Two equal rows of one worth: the one that came first is kept, unless it was put back behind the other one.
        mender = mender_with(MIXED, (0,), ((5, 0), 3), ((5, 0), 3))
        self.assertEqual(mender.kept, (0,))
        mender.mark()
        mender.forget(0, 0)
        mender.put((6, 0), 5)
        mender.take(0)
        self.assertEqual(mender.kept, (1, 2))
        mender.back(0)
        self.assertEqual(mender.kept, (0,))
        mender.take(0)
        mender.put((5, 0), 3)
        self.assertEqual((mender.row_names, mender.kept), ((1, 3), (1,)))
        mender.mark()
        mender.put((5, 0), 4)
        self.assertEqual(mender.kept, (4,))
        mender.back(1)
        self.assertEqual(mender.kept, (1,))

    def test_names_go_on(self):
        mender = mender_with(MIXED, (0,), ((5, 0), 1))
        mender.mark()
        self.assertEqual([mender.put((6, 0), 1), mender.put((7, 0), 1)], [1, 2])
        mender.back(0)
        self.assertEqual(mender.row_names, (0,))
        self.assertEqual(mender.put((8, 0), 2), 3)
        self.assertEqual((mender.row_names, mender.worths, mender.kept), ((0, 3), (1, 2), (0, 3)))
        self.refused(InvalidNumber, mender, 'take', 1)
        mender.mark()
        mender.take(3)
        self.assertEqual(mender.put((9, 0), 1), 4)
        mender.back(1)
        self.assertEqual((mender.row_names, mender.table), ((0, 3), ((5, 0), (8, 0))))
        mender.back(0)
        self.assertEqual(mender.put((9, 0), 1), 5)

    def test_twice_and_to_an_earlier_one(self):
        mender = Mender(BIT, (0,))
        for count in range(3):
            self.assertEqual(mender.mark(), count)
            mender.put((count % 2,), count)
        for _ in range(2):
            mender.back(2)
            self.assertEqual((mender.table, mender.kept), (((0,), (1,)), (0, 1)))
            mender.put((1,), 7)
        mender.back(1)
        self.assertEqual(mender.table, ((0,),))
        self.no_mark(mender, 2)
        mender.back(1)
        mender.back(0)
        self.assertEqual(mender.table, ())
        self.no_mark(mender, 1)
        mender.back(0)

    def test_marks_made_behind_back(self):
        mender = mender_with(BIT, (0,), ((0,), 1))
        mender.mark()
        mender.put((1,), 1)
        mender.mark()
        mender.back(0)
        mender.put((0,), 5)
        self.assertEqual(mender.mark(), 1)
        mender.take(0)
        mender.back(1)
        self.assertEqual((mender.table, mender.row_names, mender.kept), (((0,), (0,)), (0, 2), (2,)))

    def test_no_marks(self):
        mender = mender_with(BIT, (0,), ((0,), 1))
        for value in WRONG_EVERYWHERE + [0, 1, 5, 6, (0,), '0', [0]]:
            self.no_mark(mender, value)
        mender.mark()
        mender.mark()
        for value in WRONG_EVERYWHERE + [2, 3, -2, (0,), [1]]:
            self.no_mark(mender, value)
        passed = [1, [2]]
        self.no_mark(mender, passed)
        self.assertEqual(passed, [1, [2]])

    def test_beside_one_another(self):
        one, other = Mender(BIT, (0,)), Mender(BIT, (0,))
        one.put((0,), 1)
        one.mark()
        self.assertEqual(told(other), ((), (), (), (), (), []))
        self.no_mark(other, 0)
        self.assertEqual(other.put((1,), 2), 0)
        self.assertEqual(one.table, ((0,),))


if __name__ == '__main__':
    unittest.main()
