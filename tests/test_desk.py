"""surekeys.desk: each method of a desk, its refusals in their order, its news and its marks."""

import inspect
import unittest

from surekeys.desk import Desk
from surekeys.errors import (Full, Impossible, InvalidColumns, InvalidEntry, InvalidMark, InvalidNumber, InvalidRow,
                             InvalidSet, InvalidValue, KeyRuleError)
from tests.judges import tree_is_right
from tests.samples import WRONG_EVERYWHERE

BIT = ((0, 1),)
BITS = ((0, 1), (0, 1))
MIXED = (None, (0, 1))
METHODS = {
    'put': ['row'], 'take': ['name'], 'fill': ['name', 'column', 'value'], 'forget': ['name', 'column'],
    'demand': ['some'], 'release': ['number'], 'world': [], 'barred': ['name', 'column'], 'settled': [], 'news': [],
    'mark': [], 'back': ['number'],
}


def desk_with(columns, rows, sets=()):
    desk = Desk(columns)
    for row in rows:
        desk.put(row)
    for some in sets:
        desk.demand(some)
    return desk


def told(desk):
    """All that a desk tells without changing anything."""
    return desk.table, desk.row_names, desk.demands, desk.world(), desk.settled()


class Cases(unittest.TestCase):

    def refused(self, error, desk, method, *arguments):
        """The call raises exactly this error, and nothing changes. Returns the error."""
        before = told(desk)
        with self.assertRaises(KeyRuleError) as caught:
            getattr(desk, method)(*arguments)
        self.assertIs(type(caught.exception), error, (method, arguments))
        self.assertEqual(told(desk), before)
        return caught.exception

    def full(self, limit, desk, method, *arguments):
        found = self.refused(Full, desk, method, *arguments)
        self.assertEqual((found.limit, type(found.limit)), (limit, int))

    def impossible(self, table, sets, columns, desk, method, *arguments):
        found = self.refused(Impossible, desk, method, *arguments)
        self.assertTrue(tree_is_right(columns, table, sets, found.tree), found.tree)

    def no_mark(self, desk, value):
        found = self.refused(InvalidMark, desk, 'back', value)
        self.assertIs(found.number, value)


class InterfaceTest(Cases):

    def test_methods_stand_in_the_class(self):
        for name, parameters in METHODS.items():
            method = Desk.__dict__[name]
            self.assertTrue(inspect.isfunction(method), name)
            self.assertEqual(list(inspect.signature(method).parameters)[1:], parameters)
        for name in ('table', 'row_names', 'demands'):
            self.assertIsInstance(Desk.__dict__[name], property)
        self.assertEqual((Desk.__module__, Desk.__name__), ('surekeys.desk', 'Desk'))

    def test_example(self):
        desk = Desk(BIT)
        names = [desk.put((None,)), desk.put((0,))]
        self.assertIsNone(desk.demand((0,)))
        self.assertEqual([names, desk.settled(), desk.barred(0, 0), desk.world()],
                         [[0, 1], [(0, 0, 1)], [0], ((1,), (0,))])

    def test_new_desk(self):
        for columns in [BIT, MIXED, (None,) * 4, ((3,), (4, 5, 6))]:
            desk = Desk(columns)
            self.assertEqual(told(desk), ((), (), (), (), []))
            self.assertEqual([desk.news(), desk.news()], [[], []])
            self.no_mark(desk, 0)

    def test_wrong_columns(self):
        for columns in WRONG_EVERYWHERE + [(), (None,) * 5, [None], ((1, 0),), (None, ()), ((0, 1, 2, 3),)]:
            with self.assertRaises(InvalidColumns):
                Desk(columns)

    def test_returned_values(self):
        desk = desk_with(MIXED, [(5, None), (None, 0)])
        self.assertIsNone(desk.demand((0, 1)))
        self.assertIsNone(desk.fill(0, 1, 1))
        self.assertIsNone(desk.forget(0, 1))
        self.assertEqual(desk.mark(), 0)
        self.assertIsNone(desk.back(0))
        self.assertIsNone(desk.release(0))
        self.assertIsNone(desk.take(0))

    def test_properties(self):
        desk = desk_with(MIXED, [(5, None), (None, 0)], [(0, 1), (0,)])
        self.assertEqual(desk.table, ((5, None), (None, 0)))
        self.assertEqual(desk.row_names, (0, 1))
        self.assertEqual(desk.demands, ((0, 1), (0,)))
        for name in ('table', 'row_names', 'demands'):
            self.assertIs(type(getattr(desk, name)), tuple)
            with self.assertRaises(AttributeError):
                setattr(desk, name, ())


class RowsTest(Cases):

    def test_put_at_the_end(self):
        desk = Desk(MIXED)
        self.assertEqual([desk.put((5, 0)), desk.put((5, 0)), desk.put((None, None))], [0, 1, 2])
        self.assertEqual(desk.table, ((5, 0), (5, 0), (None, None)))

    def test_take(self):
        desk = desk_with(MIXED, [(5, 0), (6, 0), (7, 0)])
        desk.take(1)
        self.assertEqual((desk.table, desk.row_names), (((5, 0), (7, 0)), (0, 2)))
        desk.take(2)
        self.assertEqual((desk.table, desk.row_names), (((5, 0),), (0,)))
        self.assertEqual(desk.put((8, 1)), 3)
        desk.take(0)
        desk.take(3)
        self.assertEqual((desk.table, desk.row_names), ((), ()))
        self.assertEqual(desk.put((9, 1)), 4)

    def test_names_that_are_not_there(self):
        desk = desk_with(MIXED, [(5, None), (6, 0), (7, 0)])
        desk.take(1)
        for name in WRONG_EVERYWHERE + [1, 3, 4, (0,), '0', [0]]:
            self.refused(InvalidNumber, desk, 'take', name)
            self.refused(InvalidNumber, desk, 'fill', name, 1, 0)
            self.refused(InvalidNumber, desk, 'forget', name, 0)
            self.refused(InvalidNumber, desk, 'barred', name, 1)

    def test_wrong_rows(self):
        desk = desk_with(MIXED, [(5, 0)])
        for row in WRONG_EVERYWHERE + [(), (5,), (5, 0, 0), (5, 2), [5, 0], (-1, 0), (5, (0,)), ((5, 0),), None]:
            self.refused(InvalidRow, desk, 'put', row)
        self.assertEqual(desk.put((5, 0)), 1)

    def test_full_of_rows(self):
        desk = desk_with(MIXED, [(k, None if k < 6 else 0) for k in range(8)])
        self.assertEqual(len(desk.table), 8)
        self.full(8, desk, 'put', (9, 0))
        self.full(8, desk, 'put', (None, None))
        self.refused(InvalidRow, desk, 'put', (9, 2))
        desk.take(0)
        self.full(6, desk, 'put', (None, None))
        self.assertEqual(desk.put((9, None)), 8)
        desk = desk_with(BIT, [(0,)] * 8)
        self.full(8, desk, 'put', (0,))

    def test_full_of_unknown_entries(self):
        desk = desk_with(MIXED, [(None, None)] * 3)
        self.full(6, desk, 'put', (None, 0))
        self.full(6, desk, 'put', (0, None))
        self.assertEqual(desk.put((0, 0)), 3)
        desk.take(1)
        self.assertEqual(desk.put((None, None)), 4)
        self.full(6, desk, 'forget', 3, 0)
        desk = desk_with((None,) * 4, [(None,) * 4, (None, 0, 0, 0)])
        self.full(6, desk, 'put', (None, None, 0, 0))
        self.full(6, desk, 'put', (None,) * 4)
        self.assertEqual(desk.put((None, 0, 0, 0)), 2)
        self.full(6, desk, 'put', (None, 0, 0, 0))

    def test_full_comes_before_impossible(self):
        desk = desk_with(MIXED, [(k, 0) for k in range(8)], [(0,)])
        self.full(8, desk, 'put', (0, 0))
        desk = desk_with((None, None, BIT[0]), [(None, None, 0), (None, None, 1), (None, None, 0)])
        desk.demand((0, 1))
        desk.take(2)
        desk.demand((2,))
        rows = ((None, None, 0), (None, None, 1), (None, None, 0))
        self.impossible(rows, ((0, 1), (2,)), (None, None, BIT[0]), desk, 'put', rows[2])
        self.full(6, desk, 'put', (None, None, None))

    def test_impossible_put(self):
        desk = desk_with(BITS, [(0, None), (1, None)], [(0,), (1,)])
        for row in [(0, 0), (None, 0), (1, None), (None, None)]:
            self.impossible(((0, None), (1, None), row), ((0,), (1,)), BITS, desk, 'put', row)
        desk.release(0)
        self.impossible(((0, None), (1, None), (0, 0)), ((1,),), BITS, desk, 'put', (0, 0))
        desk.release(0)
        self.assertEqual(desk.put((0, 0)), 2)

    def test_a_refused_row_uses_no_name(self):
        desk = desk_with(BIT, [(0,)], [(0,)])
        self.refused(Impossible, desk, 'put', (0,))
        self.refused(InvalidRow, desk, 'put', (2,))
        self.assertEqual(desk.put((1,)), 1)
        self.assertEqual(desk.row_names, (0, 1))

    def test_trees_have_numbers_not_names(self):
        desk = desk_with(BIT, [(0,), (0,), (1,)])
        desk.take(0)
        desk.demand((0,))
        self.impossible(((0,), (1,), (0,)), ((0,),), BIT, desk, 'put', (0,))
        self.impossible(((0,), (1,), (None,)), ((0,),), BIT, desk, 'put', (None,))


class EntriesTest(Cases):

    def test_fill_and_forget(self):
        desk = desk_with(MIXED, [(5, None), (None, 0)])
        desk.fill(0, 1, 1)
        self.assertEqual(desk.table, ((5, 1), (None, 0)))
        desk.fill(1, 0, 10 ** 29)
        self.assertEqual(desk.table, ((5, 1), (10 ** 29, 0)))
        desk.forget(0, 0)
        self.assertEqual(desk.table, ((None, 1), (10 ** 29, 0)))
        desk.fill(0, 0, 0)
        self.assertEqual(desk.table, ((0, 1), (10 ** 29, 0)))

    def test_by_names(self):
        desk = desk_with(MIXED, [(5, None), (6, None), (7, None)])
        desk.take(0)
        desk.fill(2, 1, 0)
        desk.forget(1, 0)
        self.assertEqual(desk.table, ((None, None), (7, 0)))
        self.assertEqual(desk.barred(1, 0), [])
        desk.demand((0,))
        desk.demand((1,))
        self.assertEqual(desk.barred(1, 0), [7])
        self.assertEqual(desk.settled(), [(1, 1, 1)])

    def test_errors_in_their_order(self):
        desk = desk_with(BITS, [(0, None), (None, 0)], [(0,)])
        self.refused(InvalidNumber, desk, 'fill', 2, 2, 2)
        self.refused(InvalidNumber, desk, 'fill', 0, 2, 2)
        self.refused(InvalidEntry, desk, 'fill', 0, 0, 2)
        self.refused(InvalidEntry, desk, 'fill', 0, 0, 0)
        self.refused(InvalidValue, desk, 'fill', 0, 1, 2)
        self.impossible(((0, None), (0, 0)), ((0,),), BITS, desk, 'fill', 1, 0, 0)
        self.refused(InvalidNumber, desk, 'forget', 2, 2)
        self.refused(InvalidNumber, desk, 'forget', 0, 2)
        self.refused(InvalidEntry, desk, 'forget', 0, 1)
        self.refused(InvalidNumber, desk, 'barred', 2, 0)
        self.refused(InvalidNumber, desk, 'barred', 0, 2)
        self.refused(InvalidEntry, desk, 'barred', 0, 0)

    def test_columns_that_are_not_there(self):
        desk = desk_with(MIXED, [(None, None), (5, 0)])
        for column in WRONG_EVERYWHERE + [2, 3, (0,), '0']:
            self.refused(InvalidNumber, desk, 'fill', 0, column, 0)
            self.refused(InvalidNumber, desk, 'fill', 1, column, -1)
            self.refused(InvalidNumber, desk, 'forget', 1, column)
            self.refused(InvalidNumber, desk, 'forget', 0, column)
            self.refused(InvalidNumber, desk, 'barred', 0, column)
            self.refused(InvalidNumber, desk, 'barred', 1, column)

    def test_wrong_values(self):
        desk = desk_with(((3, 5), None), [(None, None)])
        for value in WRONG_EVERYWHERE + [0, 1, 2, 4, 6, (3,), '3', [3]]:
            self.refused(InvalidValue, desk, 'fill', 0, 0, value)
            if value not in (0, 1, 2, 4, 6, 10 ** 30) or isinstance(value, bool):
                self.refused(InvalidValue, desk, 'fill', 0, 1, value)
        desk.fill(0, 0, 3)
        desk.fill(0, 1, 0)
        desk = desk_with(BIT, [(None,)])
        for value in (True, False, None, -1, 2):
            self.refused(InvalidValue, desk, 'fill', 0, 0, value)

    def test_full_forget(self):
        desk = desk_with(MIXED, [(None, None), (None, None), (None, 0), (3, 0)])
        desk.forget(2, 1)
        for name, column in ((3, 0), (3, 1)):
            self.full(6, desk, 'forget', name, column)
        self.refused(InvalidEntry, desk, 'forget', 2, 1)
        desk.fill(0, 1, 1)
        desk.forget(3, 0)
        self.full(6, desk, 'forget', 0, 1)

    def test_impossible_fill(self):
        desk = desk_with(BITS, [(None, 0), (0, None)], [(0,), (1,)])
        self.impossible(((0, 0), (0, None)), ((0,), (1,)), BITS, desk, 'fill', 0, 0, 0)
        self.impossible(((None, 0), (0, 0)), ((0,), (1,)), BITS, desk, 'fill', 1, 1, 0)
        desk.fill(0, 0, 1)
        desk.fill(1, 1, 1)
        self.assertEqual(desk.table, ((1, 0), (0, 1)))
        columns = ((0, 1, 2),)
        desk = desk_with(columns, [(None,), (None,), (0,)], [(0,)])
        self.impossible(((0,), (None,), (0,)), ((0,),), columns, desk, 'fill', 0, 0, 0)
        desk = desk_with(columns + (None,), [(None, None), (None, 4), (0, 4)], [(0,), (0, 1)])
        self.impossible(((None, None), (0, 4), (0, 4)), ((0,), (0, 1)), columns + (None,), desk, 'fill', 1, 0, 0)

    def test_impossible_with_a_deep_tree(self):
        columns = ((0, 1, 2), (0, 1))
        rows = [(None, None), (None, None), (0, 0), (0, 1), (1, 0), (2, None)]
        desk = desk_with(columns, rows, [(0, 1)])
        self.impossible(tuple(rows) + ((1, 1),), ((0, 1),), columns, desk, 'put', (1, 1))
        rows[5] = (2, 0)
        self.assertEqual(desk.settled(), [])
        desk.fill(5, 1, 0)
        self.assertEqual(desk.table, tuple(rows))


class DemandTest(Cases):

    def test_order_and_release(self):
        desk = desk_with(MIXED, [(5, None), (6, 0)], [(0, 1), (0,), (1,), (0,)])
        self.assertEqual(desk.demands, ((0, 1), (0,), (1,), (0,)))
        desk.release(1)
        self.assertEqual(desk.demands, ((0, 1), (1,), (0,)))
        desk.release(2)
        self.assertEqual(desk.demands, ((0, 1), (1,)))
        desk.release(0)
        self.assertEqual(desk.demands, ((1,),))
        desk.demand((0, 1))
        self.assertEqual(desk.demands, ((1,), (0, 1)))

    def test_wrong_sets(self):
        desk = desk_with(MIXED, [(5, None), (6, 0)], [(0,)])
        for some in WRONG_EVERYWHERE + [(2,), (1, 0), (0, 0), [0], 0, (0, 1, 2)]:
            self.refused(InvalidSet, desk, 'demand', some)

    def test_full(self):
        desk = desk_with(MIXED, [(5, None), (6, 0), (6, 1)])
        for count in range(4):
            self.assertEqual(len(desk.demands), count)
            desk.demand((0, 1))
        self.full(4, desk, 'demand', (0, 1))
        self.full(4, desk, 'demand', (1,))
        self.full(4, desk, 'demand', ())
        self.refused(InvalidSet, desk, 'demand', (2,))
        desk.release(3)
        desk.demand((0, 1))

    def test_impossible(self):
        desk = desk_with(BITS, [(None, 0), (0, 0)], [(0,)])
        self.impossible(desk.table, ((0,), (1,)), BITS, desk, 'demand', (1,))
        self.impossible(desk.table, ((0,), ()), BITS, desk, 'demand', ())
        desk.demand((0, 1))
        self.impossible(desk.table, ((0,), (0, 1), (1,)), BITS, desk, 'demand', (1,))
        desk.take(0)
        desk.demand((1,))
        desk.demand(())
        self.impossible(((0, 0), (1, 1)), ((0,), (0, 1), (1,), ()), BITS, desk, 'put', (1, 1))

    def test_each_alone_but_not_both(self):
        columns, rows = ((0, 1), (0, 1), (0, 1)), ((None, 0, 0), (0, 0, 1), (1, 1, 0))
        for first, second in [((0, 1), (0, 2)), ((0, 2), (0, 1))]:
            desk = desk_with(columns, rows, [first])
            self.impossible(rows, (first, second), columns, desk, 'demand', second)

    def test_numbers_that_are_not_there(self):
        desk = desk_with(MIXED, [(5, None)], [(0,), (1,)])
        for number in WRONG_EVERYWHERE + [2, 3, (0,), '0', [0], (0, 1)]:
            self.refused(InvalidNumber, desk, 'release', number)
        desk.release(1)
        self.refused(InvalidNumber, desk, 'release', 1)
        desk.release(0)
        self.refused(InvalidNumber, desk, 'release', 0)


class NewsTest(Cases):

    def test_once(self):
        desk = desk_with(BIT, [(None,), (0,)])
        self.assertEqual(desk.news(), [])
        desk.demand((0,))
        self.assertEqual(desk.settled(), [(0, 0, 1)])
        self.assertEqual(desk.news(), [(0, 0, 1)])
        self.assertEqual(desk.news(), [])
        self.assertEqual(desk.settled(), [(0, 0, 1)])

    def test_settled_entries_are_no_news_of_asking(self):
        desk = desk_with(((3,), (0, 1)), [(None, None)])
        self.assertEqual(desk.settled(), [(0, 0, 3)])
        self.assertEqual(desk.settled(), [(0, 0, 3)])
        self.assertEqual(desk.news(), [(0, 0, 3)])

    def test_again_after_it_was_asked_in_between(self):
        desk = desk_with(BIT, [(None,), (0,)], [(0,)])
        self.assertEqual(desk.news(), [(0, 0, 1)])
        desk.release(0)
        desk.demand((0,))
        self.assertEqual(desk.news(), [])
        desk.release(0)
        self.assertEqual(desk.news(), [])
        desk.demand((0,))
        self.assertEqual(desk.news(), [(0, 0, 1)])

    def test_another_value(self):
        desk = desk_with(BIT, [(None,), (0,)], [(0,)])
        self.assertEqual(desk.news(), [(0, 0, 1)])
        desk.take(1)
        desk.put((1,))
        self.assertEqual(desk.settled(), [(0, 0, 0)])
        self.assertEqual(desk.news(), [(0, 0, 0)])

    def test_filled_entries_are_not_settled(self):
        desk = desk_with(BIT, [(None,), (0,)], [(0,)])
        desk.fill(0, 0, 1)
        self.assertEqual([desk.settled(), desk.news()], [[], []])
        desk.forget(0, 0)
        self.assertEqual(desk.news(), [(0, 0, 1)])
        desk.fill(0, 0, 1)
        desk.forget(0, 0)
        self.assertEqual(desk.news(), [])

    def test_names(self):
        desk = desk_with(BITS, [(0, 0), (None, 1), (0, None)])
        desk.take(0)
        desk.demand((0,))
        self.assertEqual(desk.news(), [(1, 0, 1)])
        desk.demand((1,))
        self.assertEqual(desk.news(), [(2, 1, 0)])
        desk.take(1)
        self.assertEqual(desk.put((None, 1)), 3)
        self.assertEqual(desk.settled(), [(2, 1, 0), (3, 0, 1)])
        self.assertEqual(desk.news(), [(3, 0, 1)])

    def test_before_and_behind_back(self):
        desk = desk_with(BIT, [(None,), (0,)])
        self.assertEqual([desk.news(), desk.mark()], [[], 0])
        desk.demand((0,))
        self.assertEqual(desk.mark(), 1)
        self.assertEqual(desk.news(), [(0, 0, 1)])
        desk.back(1)
        self.assertEqual([desk.news(), desk.news()], [[(0, 0, 1)], []])
        desk.back(0)
        self.assertEqual(desk.news(), [])
        desk.demand((0,))
        self.assertEqual(desk.news(), [(0, 0, 1)])
        self.assertEqual(desk.mark(), 1)
        desk.release(0)
        self.assertEqual(desk.news(), [])
        desk.back(1)
        self.assertEqual(desk.news(), [])

    def test_refused_calls_and_marks_are_no_asking(self):
        desk = desk_with(BIT, [(None,), (0,)], [(0,)])
        desk.mark()
        self.refused(Impossible, desk, 'put', (0,))
        self.refused(InvalidEntry, desk, 'barred', 1, 0)
        desk.world()
        self.assertEqual(desk.news(), [(0, 0, 1)])


class MarksTest(Cases):

    def test_numbers(self):
        desk = Desk(MIXED)
        self.assertEqual([desk.mark() for _ in range(6)], [0, 1, 2, 3, 4, 5])
        self.full(6, desk, 'mark')
        desk.back(5)
        self.full(6, desk, 'mark')
        desk.back(2)
        self.assertEqual([desk.mark() for _ in range(3)], [3, 4, 5])
        self.full(6, desk, 'mark')
        desk.back(0)
        self.assertEqual(desk.mark(), 1)

    def test_restored(self):
        desk = desk_with(MIXED, [(5, None), (None, 0)], [(0,), (0, 1)])
        before = told(desk)
        desk.mark()
        for change in [lambda: desk.fill(0, 1, 1), lambda: desk.forget(0, 0), lambda: desk.take(0),
                       lambda: desk.release(1), lambda: desk.demand((1,)), lambda: desk.put((7, 1))]:
            change()
            self.assertNotEqual(told(desk), before)
            desk.back(0)
            self.assertEqual(told(desk), before)
        desk.take(0)
        desk.take(1)
        desk.back(0)
        self.assertEqual(told(desk), before)

    def test_names_go_on(self):
        desk = desk_with(MIXED, [(5, 0)])
        desk.mark()
        self.assertEqual([desk.put((6, 0)), desk.put((7, 0))], [1, 2])
        desk.back(0)
        self.assertEqual(desk.row_names, (0,))
        self.assertEqual(desk.put((8, 0)), 3)
        self.assertEqual(desk.row_names, (0, 3))
        self.refused(InvalidNumber, desk, 'take', 1)
        desk.mark()
        desk.take(3)
        self.assertEqual(desk.put((9, 0)), 4)
        desk.back(1)
        self.assertEqual((desk.row_names, desk.table), ((0, 3), ((5, 0), (8, 0))))
        desk.back(0)
        self.assertEqual(desk.put((9, 0)), 5)

    def test_twice_and_to_an_earlier_one(self):
        desk = Desk(BIT)
        for count in range(3):
            self.assertEqual(desk.mark(), count)
            desk.put((count % 2,))
        desk.back(2)
        self.assertEqual(desk.table, ((0,), (1,)))
        desk.put((1,))
        desk.back(2)
        self.assertEqual(desk.table, ((0,), (1,)))
        desk.back(1)
        self.assertEqual(desk.table, ((0,),))
        self.no_mark(desk, 2)
        desk.back(1)
        desk.back(0)
        self.assertEqual(desk.table, ())
        self.no_mark(desk, 1)
        desk.back(0)

    def test_marks_made_behind_back(self):
        desk = desk_with(BIT, [(0,)])
        desk.mark()
        desk.put((1,))
        desk.mark()
        desk.back(0)
        desk.put((0,))
        self.assertEqual(desk.mark(), 1)
        desk.take(0)
        desk.back(1)
        self.assertEqual(desk.table, ((0,), (0,)))

    def test_no_marks(self):
        desk = desk_with(BIT, [(0,)])
        for value in WRONG_EVERYWHERE + [0, 1, 5, 6, (0,), '0', [0]]:
            self.no_mark(desk, value)
        desk.mark()
        desk.mark()
        for value in WRONG_EVERYWHERE + [2, 3, -2, (0,), [1]]:
            self.no_mark(desk, value)
        passed = [1, [2]]
        self.no_mark(desk, passed)
        self.assertEqual(passed, [1, [2]])
        desk.back(0)
        self.no_mark(desk, 1)


class SeveralDesksTest(Cases):

    def test_beside_one_another(self):
        one, other = Desk(BIT), Desk(BIT)
        one.put((0,))
        one.demand((0,))
        one.mark()
        self.assertEqual(told(other), ((), (), (), (), []))
        self.no_mark(other, 0)
        self.assertEqual(other.put((1,)), 0)
        self.assertEqual(told(one), (((0,),), (0,), ((0,),), ((0,),), []))
        other.mark()
        other.put((None,))
        other.demand((0,))
        self.assertEqual(other.news(), [(1, 0, 0)])
        one.back(0)
        self.assertEqual(other.table, ((1,), (None,)))
        self.assertEqual(one.put((None,)), 1)
        self.assertEqual(one.news(), [(1, 0, 1)])

    def test_lists_are_new_ones(self):
        desk = desk_with(((0, 1), (3,)), [(None, None), (0, 3)], [(0,)])
        for ask in [desk.settled, desk.news, lambda: desk.barred(0, 0), desk.settled, desk.news]:
            found = ask()
            self.assertIs(type(found), list)
            again = list(found)
            found.append((0, 1, 3))
            found.insert(0, 'more')
            if ask.__name__ != 'news':
                self.assertEqual(ask(), again)
                self.assertIsNot(ask(), ask())
        self.assertEqual(desk.news(), [])
        self.assertEqual(desk.settled(), [(0, 0, 1), (0, 1, 3)])


if __name__ == '__main__':
    unittest.main()
