"""Drawn histories of calls of a desk, beside a plain model of it: what the last promise of point 3 says."""

import random
import unittest

from surekeys.desk import Desk
from surekeys.entries import barred, settled
from surekeys.errors import InvalidEntry, InvalidNumber, InvalidRow, InvalidSet, InvalidValue
from surekeys.several import common_world
from surekeys.worlds import is_world
from tests.judges import tree_is_right
from tests.models import RowsModel, outcome
from tests.samples import WRONG_EVERYWHERE, drawn_set, keeps, some_worlds, unknown_count


class Model(RowsModel):
    """What a desk has to be."""

    def __init__(self, columns):
        super().__init__(columns)
        self.sets, self.seen = [], []

    def settled(self):
        return [(self.names()[i], k, value) for i, k, value in settled(self.columns, self.rows(), tuple(self.sets))]

    def refusal(self, named, sets):
        """Impossible with the rows and the demand as they would be, or None."""
        rows = tuple(row for _, row in named)
        possible = common_world(self.columns, rows, tuple(sets)) is not None
        return None if possible else ('impossible', rows, tuple(sets))

    def put(self, row):
        refusal = self.refused_row(row) or self.refusal(self.named + [(self.next, row)], self.sets)
        return refusal or self.add(row)

    def fill(self, name, column, value):
        refusal = self.refused_entry(name, column, value)
        refusal = refusal or self.refusal(self.with_entry(name, column, value), self.sets)
        if refusal:
            return refusal
        self.named = self.with_entry(name, column, value)
        return 'returned', None

    def demand(self, some):
        if type(some) is not tuple or not all(self.is_column(k) for k in some) or list(some) != sorted(set(some)):
            return InvalidSet
        if len(self.sets) == 4:
            return 'full', 4
        refusal = self.refusal(self.named, self.sets + [some])
        if refusal:
            return refusal
        self.sets = self.sets + [some]
        return 'returned', None

    def release(self, number):
        if type(number) is not int or not 0 <= number < len(self.sets):
            return InvalidNumber
        self.sets = self.sets[:number] + self.sets[number + 1:]
        return 'returned', None

    def barred(self, name, column):
        if not self.is_place(name, column):
            return InvalidNumber
        if self.entry(name, column) is not None:
            return InvalidEntry
        i = self.names().index(name)
        return 'returned', barred(self.columns, self.rows(), tuple(self.sets), i, column)

    def news(self):
        now = self.settled()
        found = [entry for entry in now if entry not in self.seen]
        self.seen = now
        return 'returned', found

    def mark(self):
        return self.add_mark(self.sets, self.seen)

    def back(self, number):
        if self.no_mark(number):
            return 'mark', number
        self.named, self.sets, self.seen = self.marks[number]
        self.marks = self.marks[:number + 1]
        return 'returned', None


def drawn_call(draw, model):
    """A method's name and its arguments: right ones for the most part, and some wrong ones of every kind."""
    wrong = draw.choice(WRONG_EVERYWHERE + [0, 1, 2, 3, 7, (0,), (1, 0)])

    def often(value):
        return value if draw.random() < 0.93 else wrong

    def entry(domain):
        return None if draw.random() < 0.35 else draw.choice(domain or (0, 1, 6))

    name = often(draw.choice(model.names() or [0]))
    column = often(draw.randrange(len(model.columns)))
    domain = model.columns[column] if model.is_column(column) else None
    row = tuple(entry(domain) for domain in model.columns)
    return draw.choice([
        ('put', (often(row),)), ('put', (often(row),)), ('put', (often(row),)), ('take', (name,)),
        ('fill', (name, column, often(draw.choice(domain or (0, 1, 6))))),
        ('fill', (name, column, often(draw.choice(domain or (0, 1, 6))))), ('forget', (name, column)),
        ('forget', (name, column)), ('demand', (often(drawn_set(draw, len(model.columns))),)),
        ('demand', (often(drawn_set(draw, len(model.columns))),)), ('release', (often(draw.randrange(4)),)),
        ('news', ()), ('news', ()), ('barred', (name, column)), ('mark', ()), ('mark', ()), ('back', (often(draw.randrange(6)),)),
    ])


def drawn_desk_columns(draw):
    return tuple(draw.choice([None, (0, 1), (0, 1), (0, 3, 7), (4,)]) for _ in range(draw.randint(1, 4)))


def history(seed, calls):
    """All that a desk tells over a drawn history of calls."""
    draw = random.Random(seed)
    columns = drawn_desk_columns(draw)
    desk, model = Desk(columns), Model(columns)
    found = []
    for _ in range(calls):
        method, arguments = drawn_call(draw, model)
        getattr(model, method)(*arguments)
        found.append((outcome(desk, method, arguments), desk.table, desk.row_names, desk.demands, desk.world()))
    return found


class HistoriesTest(unittest.TestCase):

    def check_outcome(self, columns, found, expected, case):
        if isinstance(expected, tuple) and expected[0] == 'impossible':
            self.assertEqual(found[0], 'impossible', case)
            self.assertTrue(tree_is_right(columns, expected[1], expected[2], found[1]), case)
        else:
            self.assertEqual(repr(found), repr(expected), case)

    def check_desk(self, desk, model, case):
        rows, sets = model.rows(), tuple(model.sets)
        self.assertEqual(repr(desk.table), repr(rows), case)
        self.assertEqual(repr(desk.row_names), repr(tuple(model.names())), case)
        self.assertEqual(repr(desk.demands), repr(sets), case)
        world = desk.world()
        self.assertIs(is_world(model.columns, rows, world), True, case)
        self.assertTrue(keeps(world, sets), case)
        self.assertEqual(repr(desk.settled()), repr(model.settled()), case)
        for name, row in model.named:
            for k, entry in enumerate(row):
                if entry is None:
                    self.assertEqual(('returned', desk.barred(name, k)), model.barred(name, k), case)

    def check_by_all_worlds(self, desk, model, case):
        rows = model.rows()
        worlds = [world for world in some_worlds(model.columns, rows, more=1) if keeps(world, model.sets)]
        self.assertTrue(worlds, case)
        found = []
        for i, (name, row) in enumerate(model.named):
            for k, entry in enumerate(row):
                there = {world[i][k] for world in worlds}
                if entry is None and len(there) == 1:
                    found.append((name, k, there.pop()))
        self.assertEqual(desk.settled(), found, case)

    def run_history(self, seed, calls):
        draw = random.Random(seed)
        columns = drawn_desk_columns(draw)
        desk, model = Desk(columns), Model(columns)
        counted = {}
        for number in range(calls):
            method, arguments = drawn_call(draw, model)
            case = (seed, number, method, arguments)
            before = (model.rows(), list(model.sets), desk.world())
            expected = getattr(model, method)(*arguments)
            found = outcome(desk, method, arguments)
            self.check_outcome(columns, found, expected, case)
            self.check_desk(desk, model, case)
            if (model.rows(), model.sets) == before[:2]:
                self.assertEqual(desk.world(), before[2], case)
            if number % 10 == 0 and unknown_count(model.rows()) <= 3:
                self.check_by_all_worlds(desk, model, case)
            key = (method, expected if isinstance(expected, type) else expected[0])
            counted[key] = counted.get(key, 0) + 1
        return counted

    def test_the_same_calls_tell_the_same(self):
        for seed in range(30):
            self.assertEqual(history(seed, 40), history(seed, 40))

    def test_histories(self):
        counted = {}
        for seed in range(200):
            for key, count in self.run_history(seed, 60).items():
                counted[key] = counted.get(key, 0) + count
        for key in [('put', 'returned'), ('put', 'full'), ('put', 'impossible'), ('put', InvalidRow),
                    ('fill', 'impossible'), ('fill', InvalidEntry), ('fill', InvalidValue), ('fill', InvalidNumber),
                    ('forget', 'full'), ('forget', InvalidEntry), ('demand', 'full'), ('demand', 'impossible'),
                    ('demand', InvalidSet), ('release', InvalidNumber), ('mark', 'full'), ('back', 'mark'),
                    ('back', 'returned'), ('news', 'returned'), ('barred', 'returned'), ('barred', InvalidEntry)]:
            self.assertGreater(counted.get(key, 0), 10, key)


if __name__ == '__main__':
    unittest.main()
