"""Drawn histories of calls of a mender, beside a plain model of it: what point 28 says behind each call."""

import random
import unittest
from collections import Counter

from surekeys.desk import Desk
from surekeys.errors import Impossible, InvalidEntry, InvalidNumber, InvalidRow, InvalidValue
from surekeys.mender import Mender
from surekeys.worlds import is_world
from tests.judges import all_keepable, block_is_right
from tests.models import RowsModel, outcome
from tests.samples import WRONG_EVERYWHERE, drawn_set, equal_rows, unknown_count


class Model(RowsModel):
    """What a mender has to be but for the choice of the rows that it keeps."""

    def __init__(self, columns, some):
        super().__init__(columns)
        self.some = some

    def worths(self):
        return tuple(worth for _, _, worth in self.named)

    def put(self, row, worth):
        return self.refused_row(row, worth) or self.add(row, worth)

    def fill(self, name, column, value):
        refusal = self.refused_entry(name, column, value)
        if refusal:
            return refusal
        self.named = self.with_entry(name, column, value)
        return 'returned', None

    def block(self, name):
        # What is returned is looked at for each row behind each call.
        return None if self.is_name(name) else InvalidNumber

    def mark(self, kept):
        return self.add_mark(kept)

    def back(self, number):
        if self.no_mark(number):
            return 'mark', number
        self.named = self.marks[number][0]
        self.marks = self.marks[:number + 1]
        return 'returned', None


def drawn_call(draw, model):
    """A method's name and its arguments: right ones for the most part, and some wrong ones of every kind."""
    wrong = draw.choice(WRONG_EVERYWHERE + [0, 1, 2, 3, 7, (0,), (1, 0)])

    def often(value):
        return value if draw.random() < 0.94 else wrong

    def entry(domain):
        return None if draw.random() < 0.3 else draw.choice(domain or (0, 6))

    name = often(draw.choice(model.names() or [0]))
    column = often(draw.randrange(len(model.columns)))
    domain = model.columns[column] if model.is_column(column) else None
    row = tuple(entry(domain) for domain in model.columns)
    worth = draw.choice((0, 1, 1, 2, 3, 10 ** 30))
    fill, put = ('fill', (name, column, often(draw.choice(domain or (0, 6))))), ('put', (often(row), often(worth)))
    return draw.choice([put, put, put, put, put, ('take', (name,)), fill, fill, ('forget', (name, column)),
                        ('forget', (name, column)), ('block', (name,)), ('mark', ()), ('back', (often(draw.randrange(6)),))])


def drawn_start(draw):
    """Columns and a set of them, with rather few values."""
    columns = tuple(draw.choice([None, (0, 1), (0, 1), (0, 3, 7), (4,)]) for _ in range(draw.randint(1, 3)))
    return columns, drawn_set(draw, len(columns)) if draw.random() < 0.4 else tuple(range(len(columns)))


def told(mender):
    names = mender.row_names
    return mender.table, names, mender.worths, mender.kept, mender.world(), [mender.block(name) for name in names]


class HistoriesTest(unittest.TestCase):

    def check_mender(self, mender, model, case):
        """The properties, and that the kept rows have the greatest worth while none can be put to them."""
        rows, names, worths = model.rows(), model.names(), model.worths()
        self.assertEqual(repr([mender.table, mender.row_names, mender.worths]), repr([rows, tuple(names), worths]), case)
        self.assertTrue(type(mender.kept) is tuple and set(mender.kept) <= set(names), case)
        kept = tuple(names.index(name) for name in mender.kept)
        keepable = all_keepable(model.columns, rows, model.some)
        self.assertIn(kept, keepable, case)
        self.assertEqual(sum(worths[i] for i in kept), max(sum(worths[i] for i in found) for found in keepable), case)
        self.assertFalse(any(set(kept) < set(found) for found in keepable), case)
        world = mender.world()
        self.assertIs(is_world(model.columns, tuple(rows[i] for i in kept), world), True, case)
        self.assertFalse(equal_rows(world, model.some), case)
        for i, name in enumerate(names):
            block = mender.block(name)
            if i in kept:
                self.assertIsNone(block, case)
            else:
                self.assertEqual(list(block), sorted(block), case)
                numbers = tuple(names.index(other) for other in block)
                self.assertTrue(block_is_right(model.columns, rows, model.some, worths, kept, i, numbers), case)

    def check_few_changed(self, method, own, before, after, case):
        """How many of the kept rows a call changed; own is the name of the row that it is about."""
        let_in, put_out = set(after) - set(before) - {own}, set(before) - set(after) - {own}
        most = {'put': (0, 1), 'take': (1, 0), 'fill': (1, 1), 'forget': (1, 1)}[method]
        self.assertTrue(len(let_in) <= most[0] and len(put_out) <= most[1], case + (before, after))
        return len(let_in), len(put_out)

    def run_history(self, seed, calls, counted):
        draw = random.Random(seed)
        columns, some = drawn_start(draw)
        mender, model = Mender(columns, some), Model(columns, some)
        for number in range(calls):
            method, arguments = drawn_call(draw, model)
            case, before = (seed, number, method, arguments), told(mender)
            expected = getattr(model, method)(*(arguments if method != 'mark' else (mender.kept,)))
            found = outcome(mender, method, arguments)
            if expected is not None:
                self.assertEqual(repr(found), repr(expected), case)
            self.check_mender(mender, model, case)
            done = isinstance(expected, tuple) and expected[0] == 'returned'
            if method in ('put', 'take', 'fill', 'forget') and done:
                own = expected[1] if method == 'put' else arguments[0]
                counted[(method, self.check_few_changed(method, own, before[3], mender.kept, case))] += 1
            elif method == 'back' and done:
                self.assertEqual(mender.kept, model.marks[arguments[0]][1], case)
            else:
                self.assertEqual(repr(told(mender)), repr(before), case)
            counted[(method, expected if expected is None or isinstance(expected, type) else expected[0])] += 1

    def test_histories(self):
        counted = Counter()
        for seed in range(150):
            self.run_history(seed, 60, counted)
        for key in [('put', 'returned'), ('put', 'full'), ('put', InvalidRow), ('put', InvalidValue), ('take', 'returned'),
                    ('take', InvalidNumber), ('fill', 'returned'), ('fill', InvalidEntry), ('fill', InvalidValue),
                    ('fill', InvalidNumber), ('forget', 'returned'), ('forget', 'full'), ('forget', InvalidEntry),
                    ('mark', 'full'), ('back', 'mark'), ('back', 'returned'), ('block', InvalidNumber), ('block', None),
                    ('put', (0, 1)), ('take', (1, 0)), ('fill', (1, 0)), ('fill', (0, 1)), ('forget', (1, 0)),
                    ('forget', (0, 1)), ('forget', (0, 0))]:
            self.assertGreater(counted[key], 5, key)

    def test_menders_that_are_called_alike(self):
        for seed in range(60):
            draw = random.Random(seed)
            columns, some = drawn_start(draw)
            one, other, model = Mender(columns, some), Mender(columns, some), Model(columns, some)
            for number in range(40):
                method, arguments = drawn_call(draw, model)
                getattr(model, method)(*(arguments if method != 'mark' else (None,)))
                self.assertEqual(repr(outcome(one, method, arguments)), repr(outcome(other, method, arguments)))
                # Only one of the two is asked in between, and again.
                self.assertEqual(repr(told(one)), repr(told(one)))
            self.assertEqual(repr(told(one)), repr(told(other)))

    def test_beside_a_desk(self):
        """A mender with the same rows keeps all of them exactly if a desk with its set takes them."""
        counted = Counter()
        for seed in range(120):
            draw = random.Random(seed)
            columns, some = drawn_start(draw)
            mender, desk = Mender(columns, some), Desk(columns)
            desk.demand(some)
            for _ in range(6):
                row = tuple(None if draw.random() < 0.25 else draw.choice(domain or (0, 6)) for domain in columns)
                if unknown_count(mender.table + (row,)) > 6:
                    continue
                name = mender.put(row, draw.randrange(3))
                try:
                    desk.put(row)
                    self.assertEqual(mender.kept, mender.row_names)
                except Impossible:
                    self.assertNotEqual(mender.kept, mender.row_names)
                    mender.take(name)
                    counted['refused'] += 1
                self.assertEqual(mender.kept, mender.row_names)
                counted['all'] += 1
        self.assertGreater(counted['refused'], 50)


if __name__ == '__main__':
    unittest.main()
