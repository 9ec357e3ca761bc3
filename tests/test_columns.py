"""surekeys.columns: what is columns, a row, a table, a set, a demand."""

import unittest

from surekeys.columns import is_columns, is_demand, is_row, is_set, is_table
from surekeys.errors import InvalidColumns
from tests.samples import WRONG_EVERYWHERE

MIXED = (None, (0, 1))


class Cases(unittest.TestCase):

    def right(self, function, *cases):
        for case in cases:
            self.assertIs(function(*case), True, case)

    def wrong(self, function, *cases):
        for case in cases:
            self.assertIs(function(*case), False, case)


class IsColumnsTest(Cases):

    def test_example(self):
        found = [is_columns((None, (0, 1))), is_table((None, (0, 1)), ((5, None), (None, 0))),
                 is_set((None, None), (1, 0))]
        self.assertEqual(found, [True, True, False])

    def test_right(self):
        self.right(is_columns, ((None,),), (MIXED,), ((None, None, None, None),), (((0,), (5,), (7, 8), (1, 2, 30)),),
                   (((0,),),), (((0, 1, 2),),), (((10 ** 30 - 1,),),), (((3, 10 ** 29),),))

    def test_how_many(self):
        self.wrong(is_columns, ((),), ((None,) * 5,), (((0,),) * 5,))
        self.right(is_columns, ((None,) * 4,), (((0,),) * 4,))

    def test_closed_columns(self):
        self.wrong(is_columns, (((),),), (((0, 1, 2, 3),),), (((1, 0),),), (((0, 0),),), (((0, 1, 1),),),
                   (((0, 2, 1),),), ((None, (1, 0)),), (((0, 1), ()),), (((1, 1),),))

    def test_no_values(self):
        self.wrong(is_columns, (((True,),),), (((False, True),),), (((0, True),),), (((-1,),),), (((-1, 0),),),
                   ((('0',),),), (((None,),),), ((((0,),),),), ((([0],),),), (((0, None),),))

    def test_wrong_kinds(self):
        self.wrong(is_columns, ([None],), ([None, (0, 1)],), (([0, 1],),), ((None, [0]),), ((0,),), ((0, 1),),
                   ((True,),), (('None',),), ((None, 0),), ('None',), (0,), (None,))

    def test_any_value(self):
        self.wrong(is_columns, *[(value,) for value in WRONG_EVERYWHERE])


class IsRowTest(Cases):

    def test_right(self):
        self.right(is_row, (MIXED, (0, 0)), (MIXED, (10 ** 30 - 1, 1)), (MIXED, (None, None)), (MIXED, (5, None)),
                   ((None,), (0,)), (((2, 5, 9),), (9,)), ((None,) * 4, (1, 1, None, 2)))

    def test_length(self):
        self.wrong(is_row, (MIXED, (0,)), (MIXED, (0, 0, 0)), (MIXED, ()), ((None,), ()), ((None,), (0, 0)))

    def test_values_of_closed_columns(self):
        self.wrong(is_row, (MIXED, (0, 2)), (((2, 5, 9),), (3,)), (((2, 5, 9),), (0,)), (((0,), None), (1, 0)))

    def test_no_values(self):
        self.wrong(is_row, (MIXED, (-1, 0)), (MIXED, (True, 0)), (MIXED, (False, None)), (MIXED, (0, True)),
                   (MIXED, (0, False)), (MIXED, ('0', 0)), (MIXED, (0, '0')), (MIXED, ((0,), 0)), (MIXED, (0, (0,))),
                   (MIXED, ([], 0)), (MIXED, (0, [0, 1])), (MIXED, (0, (0, 1))))

    def test_wrong_kinds(self):
        self.wrong(is_row, (MIXED, [0, 0]), (MIXED, [None, None]), (MIXED, '00'), (MIXED, 0), (MIXED, ((0, 0),)))

    def test_any_value(self):
        self.wrong(is_row, *[(MIXED, value) for value in WRONG_EVERYWHERE])
        self.wrong(is_row, *[(((4, 6),), value) for value in WRONG_EVERYWHERE])


class IsTableTest(Cases):

    def test_right(self):
        self.right(is_table, (MIXED, ()), (MIXED, ((0, 0),)), (MIXED, ((5, None), (None, 0))), ((None,), ((3,), (None,))))

    def test_equal_rows(self):
        self.right(is_table, (MIXED, ((0, 0), (0, 0))), (MIXED, ((None, 1),) * 3), (MIXED, ((4, 1),) * 8))

    def test_how_many_rows(self):
        self.right(is_table, (MIXED, tuple((k, 0) for k in range(8))), ((None,), ((0,),) * 8))
        self.wrong(is_table, (MIXED, tuple((k, 0) for k in range(9))), ((None,), ((0,),) * 9), (MIXED, ((0, 0),) * 20))

    def test_unknown_entries(self):
        self.right(is_table, (MIXED, ((None, None),) * 3), (MIXED, ((None, 0),) * 6 + ((0, 0),) * 2),
                   ((None,) * 4, ((None,) * 4, (None, None, 0, 0), (0,) * 4)))
        self.wrong(is_table, (MIXED, ((None, None),) * 3 + ((0, None),)), (MIXED, ((None, 0),) * 7),
                   ((None,) * 4, ((None,) * 4, (None, None, 0, None))), ((None,) * 4, ((None,) * 4,) * 2))

    def test_rows_that_are_none(self):
        self.wrong(is_table, (MIXED, ((0, 0), (0,))), (MIXED, ((0, 0, 0),)), (MIXED, ((0, 0), (0, 2))),
                   (MIXED, ((0, 0), (-1, 0))), (MIXED, ((True, 0),)), (MIXED, (None,)), (MIXED, ((),)),
                   (MIXED, ((0, 0), None)), (MIXED, ((0, 0), [0, 0])), (MIXED, (0, 0)), (MIXED, ('00',)))

    def test_wrong_kinds(self):
        self.wrong(is_table, (MIXED, []), (MIXED, [(0, 0)]), (MIXED, None), (MIXED, ''), (MIXED, 0), (MIXED, False))

    def test_any_value(self):
        self.wrong(is_table, *[(MIXED, value) for value in WRONG_EVERYWHERE])


class IsSetTest(Cases):

    def test_right(self):
        self.right(is_set, (MIXED, ()), (MIXED, (0,)), (MIXED, (1,)), (MIXED, (0, 1)), ((None,) * 4, (0, 1, 2, 3)),
                   ((None,) * 4, (1, 3)), ((None,), ()), ((None,), (0,)))

    def test_order(self):
        self.wrong(is_set, (MIXED, (1, 0)), (MIXED, (0, 0)), (MIXED, (1, 1)), ((None,) * 4, (0, 2, 1)),
                   ((None,) * 4, (0, 1, 1)), ((None,) * 4, (3, 2, 1, 0)))

    def test_columns_that_are_not_there(self):
        self.wrong(is_set, (MIXED, (2,)), (MIXED, (0, 1, 2)), (MIXED, (-1,)), (MIXED, (-1, 0)), ((None,), (1,)),
                   ((None,) * 4, (4,)), ((None,) * 4, (0, 4)))

    def test_no_numbers(self):
        self.wrong(is_set, (MIXED, (True,)), (MIXED, (False,)), (MIXED, (False, True)), (MIXED, (0, True)),
                   (MIXED, (None,)), (MIXED, ('0',)), (MIXED, ((0,),)), (MIXED, ([0],)), (MIXED, (0, None)))

    def test_wrong_kinds(self):
        self.wrong(is_set, (MIXED, []), (MIXED, [0]), (MIXED, [0, 1]), (MIXED, 0), (MIXED, None), (MIXED, ''),
                   (MIXED, '01'))

    def test_any_value(self):
        self.wrong(is_set, *[(MIXED, value) for value in WRONG_EVERYWHERE])


class IsDemandTest(Cases):

    def test_right(self):
        self.right(is_demand, (MIXED, ()), (MIXED, ((),)), (MIXED, ((0,), (1,))), (MIXED, ((1,), (0,), (), (0, 1))),
                   ((None,), ((0,),)))

    def test_how_many(self):
        self.right(is_demand, (MIXED, ((0,),) * 4))
        self.wrong(is_demand, (MIXED, ((0,),) * 5), (MIXED, ((), (0,), (1,), (0, 1), ())))

    def test_a_set_twice(self):
        self.right(is_demand, (MIXED, ((0,), (0,))), (MIXED, ((0,), (1,), (0,))), (MIXED, ((), ())))

    def test_sets_that_are_none(self):
        self.wrong(is_demand, (MIXED, ((1, 0),)), (MIXED, ((0,), (2,))), (MIXED, ((0,), (0, 0))), (MIXED, ((0,), None)),
                   (MIXED, (0,)), (MIXED, (0, 1)), (MIXED, ([0],)), (MIXED, ((True,),)), (MIXED, ((0,), (-1,))),
                   (MIXED, ('0',)), (MIXED, (((0,),),)))

    def test_wrong_kinds(self):
        self.wrong(is_demand, (MIXED, []), (MIXED, [(0,)]), (MIXED, None), (MIXED, 0), (MIXED, ''))

    def test_any_value(self):
        self.wrong(is_demand, *[(MIXED, value) for value in WRONG_EVERYWHERE])


class WrongColumnsTest(unittest.TestCase):

    def test_whatever_the_value_is(self):
        wrong = WRONG_EVERYWHERE + [(), (None,) * 5, [None], ((1, 0),), (None, ())]
        right = [(), (0,), (0, 0), ((0, 0),), ((0,), (1,))]
        for function in (is_row, is_table, is_set, is_demand):
            for columns in wrong:
                for value in right + WRONG_EVERYWHERE:
                    with self.assertRaises(InvalidColumns):
                        function(columns, value)


if __name__ == '__main__':
    unittest.main()
