"""surekeys.papers: papers of each form, right ones and wrong ones, beside a second checker in tests/verdicts.py."""

import random
import unittest
from collections import Counter
from itertools import combinations

from surekeys import errors, faults
from surekeys.changes import changed, fewest_changes, prices, stuck_rows
from surekeys.counts import count_tree, kept_count
from surekeys.crowds import key_world
from surekeys.kept import greatest_kept, kept_world, spared
from surekeys.mender import Mender
from surekeys.papers import check_paper
from surekeys.several import common_world
from surekeys.worthy import blocks_of, most_worth
from tests.samples import (WRONG_EVERYWHERE, changed_somewhere, drawn_close_case, drawn_columns, drawn_held,
                           drawn_set, drawn_table, drawn_worths)
from tests.verdicts import PAPERS, RIGHT, paper_outcome

BIT = ((0, 1),)
BITS = ((0, 1), (0, 1))
MIXED = (None, (0, 1))
FIVES = ((5, None), (5, 0), (6, 1), (5, 1))
SQUARE = ((0, 0), (0, 0), (0, 1), (1, 0))
PRICES = ((2, 2, 1, 1), (((0, 0), 2), ((0, 1), 1), ((1, 0), 1)))
TREE = ('split', 0, 0, (('twins', 0, 1, 0), ('sure',)))
# One right paper of each form, and a few more.
EXAMPLES = [
    ('kept', BIT, ((None,), (0,), (1,)), (0,), (1, 7, 3), (1, 2), ((0,), (1,)), ((0, (0, 1, 2)),)),
    ('kept', MIXED, FIVES, (0,), (3, 3, 0, 1), (1, 2), ((5, 0), (6, 1)), ((0, (0, 1)), (3, (1, 3)))),
    ('always', MIXED, FIVES, (0,), (1, 2), (0, 1, 3), 2),
    ('changes', BITS, SQUARE, (), (0, 1), ((0, 0, 1), (0, 1, 1)), ((1, 1), (0, 0), (0, 1), (1, 0)), PRICES),
    ('changes', MIXED, ((5, 0), (5, None), (5, 0)), ((0, 0),), (0,), ((1, 0, 6), (2, 0, 7)), ((5, 0), (6, 1), (7, 0)),
     ((4, 1, 1), (((5,), 4),))),
    ('stuck', BIT, ((0,), (None,), (1,)), (), (0,), (0, 1, 2)),
    ('stuck', MIXED, FIVES, ((0, 0), (1, 0), (2, 0)), (0,), (0, 1)),
    ('count', BITS, ((None, 0), (0, None)), ((0,),), 2, TREE),
    ('endless', MIXED, ((None, 0), (5, None)), ((0,), (0, 1)), ((7, 0), (5, 0))),
]
OTHERS = [0, 1, 2, 5, 6, -1, None, True, '0', (), (0,), (0, 1), [1], ('sure',), (0, (0, 1))]


def outcome(value):
    try:
        return check_paper(value)
    except errors.KeyRuleError as error:
        return type(error)


def own_papers(draw):
    """Papers with what the program itself returns for a drawn table; where it returns None, there is none."""
    columns, table, some = drawn_close_case(draw)
    if draw.random() < 0.4:
        columns = drawn_columns(draw, draw.randint(1, 3))
        table = drawn_table(draw, columns, draw.choice((2, 4, 6)), draw.randint(0, 5))
        some = drawn_set(draw, len(columns))
    worths, held = drawn_worths(draw, len(table)), drawn_held(draw, table)
    rows = most_worth(columns, table, some, worths)
    yield ('kept', columns, table, some, worths, rows, kept_world(columns, table, some, rows),
           blocks_of(columns, table, some, worths, rows))
    crowd = spared(columns, table, some)
    for row in range(len(table)):
        if crowd and row not in crowd:
            yield 'always', columns, table, some, greatest_kept(columns, table, some), crowd, row
    changes = fewest_changes(columns, table, held, some)
    if changes is None:
        yield 'stuck', columns, table, held, some, stuck_rows(columns, table, held, some)
    else:
        yield ('changes', columns, table, held, some, changes, key_world(columns, changed(columns, table, changes), some),
               prices(columns, table, held, some))
    demand = (some, tuple(range(len(columns))), (0,))[:draw.randint(0, 3)]
    count = kept_count(columns, table, demand)
    if count is None:
        yield 'endless', columns, table, demand, common_world(columns, table, demand)
    elif count_tree(columns, table, demand) is not None:
        yield 'count', columns, table, demand, count, count_tree(columns, table, demand)


def each_own_paper(times, seed):
    draw = random.Random(seed)
    for _ in range(times):
        for value in list(own_papers(draw)):
            yield value


class Cases(unittest.TestCase):

    def right(self, *values):
        for value in values:
            found = check_paper(value)
            self.assertEqual(found, RIGHT, value)
            self.assertIs(type(found), tuple)

    def wrong(self, k, *values):
        for value in values:
            found = check_paper(value)
            self.assertEqual(found, ('wrong', k), value)
            self.assertEqual((type(found), type(found[1])), (tuple, int))

    def wrong_in(self, k, example, at, *values):
        """The example is wrong with each of these values as the entry with this number."""
        self.wrong(k, *[example[:at] + (value,) + example[at + 1:] for value in values])

    def right_in(self, example, at, *values):
        self.right(*[example[:at] + (value,) + example[at + 1:] for value in values])

    def raises_exactly(self, error, *values):
        for value in values:
            with self.assertRaises(errors.KeyRuleError, msg=value) as caught:
                check_paper(value)
            self.assertIs(type(caught.exception), error, value)


class FormsTest(Cases):

    def test_example(self):
        self.assertEqual([check_paper(('stuck', BIT, ((0,), (None,), (1,)), (), (0,), (0, 1, 2))),
                          check_paper(('kept', BIT, ((0,), (0,)), (0,), (2, 2), (0,), ((0,),), ()))],
                         [('right',), ('wrong', 3)])

    def test_one_of_each_form(self):
        self.right(*EXAMPLES)
        self.assertEqual({value[0] for value in EXAMPLES}, set(PAPERS))

    def test_kept_rows_and_worlds(self):
        paper = EXAMPLES[1]
        self.wrong_in(0, paper, 5, (2, 1), (1, 1), (1, 4), [1, 2], (True, 2), None, 1, '12', ((1, 2),), (1, None))
        self.wrong_in(1, paper, 5, (), (1,), (2,), (0, 1, 2), (1, 3), (0, 3))
        self.wrong_in(1, paper, 6, (), ((5, 0),), ((6, 1), (5, 0)), ((5, 0), (6, None)), ((5, 0), (7, 1)), ((5, 0),) * 3,
                      [(5, 0), (6, 1)], ((5, 0), [6, 1]), ((5, False), (6, True)), None, 'world', ((5, 0), (6, 1), (5, 1)))
        # Rows that are not keepable have worlds, but in none of them is the set a key.
        self.wrong(2, paper[:5] + ((1, 3), ((5, 0), (5, 1))) + paper[7:],
                   paper[:5] + ((0, 1, 2), ((5, 0), (5, 0), (6, 1)), ()))
        self.right(('kept', MIXED, (), (0,), (), (), (), ()), ('kept', MIXED, ((5, 0),), (), (0,), (0,), ((5, 0),), ()))
        self.right_in(paper, 4, (3, 3, 9, 1), (0, 0, 0, 0), (3, 10 ** 30, 0, 3))

    def test_blocks(self):
        paper = EXAMPLES[1]
        self.right_in(paper, 7, ((0, (0, 1)), (3, (1, 3))))
        self.wrong_in(3, paper, 7, (), ((0, (0, 1)),), ((3, (1, 3)), (0, (0, 1))), paper[7] + ((1, (0, 1)),),
                      [(0, (0, 1)), (3, (1, 3))], ([0, (0, 1)], (3, (1, 3))), ((0, (0, 1), 0), (3, (1, 3))), None, 0,
                      ((False, (0, 1)), (3, (1, 3))), ((0, (0, 1)), (2, (1, 3))), ((0,), (3,)), (0, 3), ('0x', '3x'),
                      ((0, (0, 1)), (3, (1, 3)), (3, (1, 3))), (((0, 1), 0), ((1, 3), 3)), ((0, (0, 1)), ('3', (1, 3))))
        # Crowds without the row, with rows that are left out, too, and no crowds.
        self.wrong_in(4, paper, 7, *[((0, block), (3, (1, 3))) for block in [
            (1, 3), (0, 3), (0, 1, 3), (0, 2), (1, 0), (0, 1, 1), (0,), (), [0, 1], (False, 1), None, 0, 'x', (0, 1, 2),
            (0, 4), ((0, 1),), (0, None)]])
        # Rows of less worth than the row itself.
        self.wrong_in(4, paper, 4, (4, 3, 0, 1), (3, 3, 0, 4), (1, 0, 0, 0))
        self.wrong_in(4, EXAMPLES[0], 4, (4, 7, 3), (8, 7, 8))
        self.right_in(EXAMPLES[0], 4, (3, 7, 3), (0, 0, 0))

    def test_always(self):
        paper = EXAMPLES[2]
        self.right_in(paper, 4, (0, 2), (2, 3))
        self.wrong_in(0, paper, 4, (0, 1), (1, 3), (0, 1, 2, 3), (2, 1), (1, 1), (1, 4), [1, 2], (True, 2), None, 'x', 2)
        self.wrong_in(1, paper, 5, (0, 2), (2,), (), (0, 1, 2, 3, 4), (1, 0, 3), (0, 0, 1), [0, 1, 3], (False, 1, 3), None,
                      (0, 1, None), 'ab', 3, (1, 2))
        self.wrong_in(2, paper, 5, (0, 1), (0, 3), (1, 3))
        self.wrong_in(2, paper, 4, (), (0,), (2,))
        self.wrong_in(3, paper, 6, 0, 1, 3, 4, -1, True, None, (2,), [2], '2', 10 ** 30)
        # A crowd with the same shortfall may hold row 2, too, though it is always kept: then it tells of no other row.
        self.wrong_in(3, paper[:5] + ((0, 1, 2, 3),) + paper[6:], 6, 2, 0, 4)
        self.wrong(1, ('always', MIXED, (), (0,), (), (), 0), ('always', MIXED, FIVES[1:3], (0,), (0, 1), (0, 1), 0))

    def test_changes(self):
        paper = EXAMPLES[3]
        self.wrong_in(0, paper, 5, ((0, 0, 0),), ((0, 1, 1), (0, 0, 1)), ((0, 0, 1), (0, 0, 1)), ((0, 0, 2),), ((4, 0, 1),),
                      [(0, 0, 1), (0, 1, 1)], ([0, 0, 1], (0, 1, 1)), ((0, 0, True), (0, 1, 1)), ((0, 0),), None, 'x', 2,
                      ((0, 0, 1), (0, 1, None)))
        self.wrong_in(1, paper, 5, (), ((0, 0, 1),), ((0, 0, 1), (0, 1, 1), (1, 0, 1)), ((2, 0, 1),))
        self.wrong_in(1, paper, 6, (), SQUARE, paper[6][:3], paper[6] + ((0, 0),), list(paper[6]), None,
                      ((1, 1), (0, 0), (0, 1), (1, None)), ((True, 1), (0, 0), (0, 1), (1, 0)), ([1, 1],) + paper[6][1:])
        self.wrong(2, paper[:5] + ((), SQUARE, PRICES), paper[:5] + (((0, 0, 1),), ((1, 0),) + SQUARE[1:], PRICES))
        self.wrong_in(3, paper, 7, ((3, 2, 1, 1), PRICES[1]), (PRICES[0], PRICES[1][::-1]), (PRICES[0], PRICES[1][1:]),
                      list(PRICES), ([2, 2, 1, 1], PRICES[1]), ((2, 2, 1, True), PRICES[1]), PRICES + (0,), None, 0, 'xy',
                      (PRICES[0], PRICES[1] + (((1, 1), 0),)), (PRICES[0], (((0, 0), True),) + PRICES[1][1:]), ((), ()))
        self.wrong_in(4, paper, 7, ((0, 0, 0, 0), ()), ((1, 1, 0, 0), (((0, 0), 1),)), ((2, 2, 1, 0), PRICES[1]),
                      (PRICES[0], PRICES[1] + (((1, 1), 1),)))
        more = ('changes', BITS, SQUARE, (), (0, 1), ((0, 0, 1), (0, 1, 1), (2, 0, 1), (3, 0, 0), (3, 1, 1)),
                ((1, 1), (0, 0), (1, 1), (0, 1)), PRICES)
        self.wrong(2, more)
        self.wrong(4, more[:5] + (((0, 0, 1), (2, 0, 1), (3, 0, 0), (3, 1, 1)), ((1, 0), (0, 0), (1, 1), (0, 1)), PRICES))

    def test_changes_of_held_entries(self):
        paper = EXAMPLES[4]
        self.wrong_in(0, paper, 5, ((0, 0, 6), (1, 0, 7)), ((0, 0, 6),), ((1, 1, 0),))
        self.wrong_in(0, paper, 3, ((1, 0),), ((0, 0), (1, 0)), ((2, 0),))
        # A row whose entry is not held can pay 1 for a new value.
        self.wrong_in(3, paper, 3, (), ((0, 1),))
        self.right_in(paper, 5, ((1, 0, 6), (2, 0, 7)))
        self.wrong_in(1, paper, 5, ((1, 0, 6),), ((1, 0, 6), (2, 0, 8)))

    def test_stuck(self):
        paper = EXAMPLES[5]
        self.wrong_in(0, paper, 5, (1, 0, 2), (0, 0, 1), (0, 1, 3), [0, 1, 2], (False, True, 2), None, 3, 'abc',
                      (0, 1, None))
        self.wrong_in(1, paper, 5, (0, 1), (1, 2), (0,), ())
        paper = EXAMPLES[6]
        self.right_in(paper, 3, ((0, 0), (1, 0)), ((0, 0), (1, 0), (3, 0)))
        self.right_in(paper[:3] + (((0, 0), (1, 0), (3, 0)),) + paper[4:], 5, (0, 3), (1, 3), (0, 1, 3))
        self.wrong_in(1, paper, 3, (), ((0, 0),), ((1, 0), (1, 1)), ((2, 0), (3, 0)))
        self.wrong_in(1, paper, 5, (0, 2), (1, 2), (0, 3), (0, 1, 3), (0, 1, 2, 3), (), (2,))
        # Rows with an entry in an open column that is not held reach endlessly many targets.
        self.wrong(1, ('stuck', MIXED, ((None, 0), (5, 0)), ((1, 0), (1, 1)), (0,), (0, 1)))
        self.right(('stuck', MIXED, ((None, 0), (5, 0)), (), (), (0, 1)))
        self.wrong(1, ('stuck', MIXED, ((None, 0),), (), (), (0,)), ('stuck', MIXED, (), (), (), ()))

    def test_count(self):
        paper = EXAMPLES[7]
        self.wrong_in(1, paper, 5, ('sure',), ('twins', 0, 1, 0), list(TREE), TREE[:3], ('split', 0, 0, TREE[3][::-1]),
                      ('split', 0, 0, list(TREE[3])), ('split', 0, 0, (TREE[3][0], ['sure'])), None, 'sure', 0,
                      ('choose', 0, ()),
                      ('split', False, 0, TREE[3]), ('new', 0, 0, TREE[3][0]), ('split', 0, 0, (TREE[3][0], ('sure', 0))))
        self.wrong_in(2, paper, 4, 0, 1, 3, -2, None, True, '2', (2,), [2], 10 ** 30)
        self.wrong(0, ('count', MIXED, ((None, 0),), (), 2, ('sure',)), ('count', MIXED, ((None, 0),), (), 0, 'x'),
                   ('count', MIXED, ((None, 0), (5, 0)), ((1,),), 0, ('twins', 0, 1, 0)))
        # The number of a count tree may be 0 or 1, but is not False or True.
        twins, one = (('count', BITS, ((0, 0), (0, 1)), ((0,),)), ('count', BITS, ((0, 0), (1, 1)), ((0,),)))
        self.right(twins + (0, ('twins', 0, 1, 0)), one + (1, ('sure',)))
        self.wrong(2, twins + (False, ('twins', 0, 1, 0)), one + (True, ('sure',)))
        self.wrong(1, twins + (1, ('sure',)), one + (0, ('twins', 0, 1, 0)), one + (True, ('twins', 0, 1, 0)))

    def test_endless(self):
        paper = EXAMPLES[8]
        self.right_in(paper, 4, ((6, 0), (5, 1)), ((0, 0), (5, 1)))
        self.wrong_in(1, paper, 4, ((5, 1), (5, 0)), ((7, 0),), ((7, 0), (5, None)), ((7, 0), (5, 2)), (), None, 'x', 5,
                      [(7, 0), (5, 0)], ((7, 0), (5, True)), ((7, 0), (5, 0), (6, 0)))
        self.wrong_in(2, paper, 4, ((5, 0), (5, 0)), ((5, 0), (5, 1)))
        self.wrong(0, ('endless', MIXED, ((5, 0), (6, None)), (), ((5, 0), (6, 0))), ('endless', BIT, ((None,),), (), None),
                   ('endless', MIXED, (), (), ()))
        self.right(('endless', MIXED, ((5, 0), (None, 1)), ((1,),), ((5, 0), (5, 1))))

    def test_values_of_all_kinds_are_wrong(self):
        asked = {'kept': 5, 'always': 4, 'changes': 5, 'stuck': 5, 'count': 4, 'endless': 4}
        for example in EXAMPLES:
            for at in range(asked[example[0]], len(example)):
                for value in WRONG_EVERYWHERE:
                    self.assertEqual(check_paper(example[:at] + (value,) + example[at + 1:])[0], 'wrong', (example, at))


class BesideTheSecondCheckerTest(Cases):

    def test_own_papers(self):
        counted = Counter()
        for value in each_own_paper(500, seed=111):
            self.right(value)
            counted[value[0]] += 1
        for word in PAPERS:
            self.assertGreater(counted[word], 40, word)

    def test_own_papers_of_a_mender(self):
        draw = random.Random(112)
        for _ in range(80):
            columns, table, some = drawn_close_case(draw)
            mender = Mender(columns, some)
            for row in table:
                mender.put(row, draw.randrange(4))
            # The names are the numbers, since no row was ever taken.
            blocks = tuple((name, mender.block(name)) for name in mender.row_names if name not in mender.kept)
            self.right(('kept', columns, table, some, mender.worths, mender.kept, mender.world(), blocks))

    def test_all_crowds_of_the_greatest_shortfall(self):
        draw = random.Random(113)
        counted = Counter()
        for _ in range(150):
            columns, table, some = drawn_close_case(draw)
            kept = greatest_kept(columns, table, some)
            for crowd in [rows for many in range(2, 5) for rows in combinations(range(len(table)), many)]:
                for row in (0, len(table) - 1):
                    value = ('always', columns, table, some, kept, crowd, row)
                    expected = paper_outcome(value)
                    self.assertEqual(outcome(value), expected, value)
                    counted[expected] += 1
        for expected in [RIGHT, ('wrong', 1), ('wrong', 2), ('wrong', 3)]:
            self.assertGreater(counted[expected], 10, expected)

    def test_changed_examples(self):
        counted = Counter()
        for example in EXAMPLES:
            for value in changed_somewhere(example, OTHERS):
                expected = paper_outcome(value)
                self.assertEqual(outcome(value), expected, value)
                counted[expected] += 1
        for expected in [RIGHT, ('wrong', 0), ('wrong', 1), ('wrong', 2), ('wrong', 3), ('wrong', 4), faults.NotAPaper,
                         errors.InvalidColumns, errors.InvalidTable, errors.InvalidSet, errors.InvalidDemand,
                         faults.InvalidHeld, faults.InvalidWorths]:
            self.assertGreater(counted[expected], 10, expected)

    def test_changed_own_papers(self):
        draw = random.Random(114)
        counted = Counter()
        for value in each_own_paper(400, seed=115):
            # What is shown is changed everywhere; it begins behind what the errors are for.
            begin = {'kept': 5, 'always': 4, 'changes': 5, 'stuck': 5, 'count': 4, 'endless': 4}[value[0]]
            shown = list(changed_somewhere(value[begin:], [0, 1, 3, None, (), [0], (0, 1)]))
            for other in draw.sample(shown, min(40, len(shown))):
                if type(other) is tuple and len(other) == len(value) - begin:
                    paper = value[:begin] + other
                    expected = paper_outcome(paper)
                    self.assertEqual(outcome(paper), expected, paper)
                    counted[(value[0], expected)] += 1
        for word, conditions in [('kept', 5), ('always', 4), ('changes', 5), ('stuck', 2), ('count', 3), ('endless', 3)]:
            for k in range(conditions):
                # Whether entries are unknown is no matter of what is shown.
                if (word, k) not in [('count', 0), ('endless', 0)]:
                    self.assertGreater(counted[(word, ('wrong', k))], 4, (word, k))
        self.assertGreater(sum(count for (_, found), count in counted.items() if found == RIGHT), 50)

    def test_other_tables(self):
        """Papers of one table with the table of another one."""
        draw = random.Random(116)
        counted = Counter()
        papers = list(each_own_paper(200, seed=117))
        for value in papers:
            for other in draw.sample(papers, 10):
                paper = value[:1] + other[1:3] + value[3:]
                expected = paper_outcome(paper)
                self.assertEqual(outcome(paper), expected, paper)
                counted[expected] += 1
        self.assertGreater(counted[('wrong', 0)], 100)


class RefusalsTest(Cases):

    def test_any_value(self):
        self.raises_exactly(faults.NotAPaper, *WRONG_EVERYWHERE)
        self.raises_exactly(faults.NotAPaper, (), ('kept',), ('Kept',) + (0,) * 7, ('',) + (0,) * 4, (None,) * 5, (0,) * 6,
                            ((),) * 7, ([],) * 8, (['stuck'],) + (0,) * 5, (('stuck',),) + (0,) * 5, 'stuck', 'endless')

    def test_lists_and_other_lengths(self):
        for example in EXAMPLES:
            self.raises_exactly(faults.NotAPaper, list(example), example[:-1], example + (0,), example + example,
                                example[1:], example[:1], example[0], (example,), (example[0].upper(),) + example[1:],
                                ('key',) + example[1:], (None,) + example[1:], ([example[0]],) + example[1:])

    def test_words_of_other_lengths(self):
        for word, length in PAPERS.items():
            for other in set(PAPERS.values()) | {1, 2, 3, 4, 9, 10}:
                value = (word,) + (None,) * (other - 1)
                self.raises_exactly(errors.InvalidColumns if other == length else faults.NotAPaper, value)

    def test_errors_in_their_order(self):
        tables = [errors.InvalidColumns, errors.InvalidTable]
        expected = {
            'kept': tables + [errors.InvalidSet, faults.InvalidWorths], 'always': tables + [errors.InvalidSet],
            'changes': tables + [faults.InvalidHeld, errors.InvalidSet], 'count': tables + [errors.InvalidDemand],
            'stuck': tables + [faults.InvalidHeld, errors.InvalidSet], 'endless': tables + [errors.InvalidDemand],
        }
        for example in EXAMPLES:
            raised = expected[example[0]]
            for first in range(len(raised)):
                for bits in range(2 ** (len(example) - first - 2)):
                    wrong = [first + 1] + [first + 2 + k for k in range(len(example) - first - 2) if bits >> k & 1]
                    value = tuple([[]] if k in wrong else entry for k, entry in enumerate(example))
                    self.raises_exactly(raised[first], value)

    def test_arguments_that_fit_others_only(self):
        self.raises_exactly(errors.InvalidTable, ('stuck', BIT, ((2,),), (), (0,), (0,)))
        self.raises_exactly(errors.InvalidTable, ('endless', BIT, ((0,),) * 9, ((0,),), None))
        self.raises_exactly(faults.InvalidHeld, *[('stuck', BIT, ((0,), (None,)), held, (0,), (0,)) for held in [
            ((1, 0),), ((2, 0),), ((0, 1),), ((0, 0), (0, 0)), [(0, 0)], ([0, 0],), ((0, False),), ((0,),), (0, 0), None]])
        self.raises_exactly(errors.InvalidSet, ('stuck', BIT, ((0,),), ((0, 0),), (1,), None))
        self.raises_exactly(errors.InvalidDemand, ('count', BIT, ((0,),), ((0,), (1,)), 1, ('sure',)))
        self.raises_exactly(faults.InvalidWorths, *[('kept', BIT, ((0,), (1,)), (0,), worths, (0, 1), ((0,), (1,)), ())
                                                    for worths in [(1,), (1, 2, 3), (1, -1), (1, True), [1, 2], None, 2]])


if __name__ == '__main__':
    unittest.main()
