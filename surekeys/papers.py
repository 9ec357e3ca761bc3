"""Stage 18: the checker of papers.

Each judge looks at the papers of one form: first at the entries whose errors the document names, then at the conditions
in their order.
"""

from surekeys.changes import changed_table, fit_changes, fit_prices, prices_come_to
from surekeys.counts import number_of_tree
from surekeys.crowds import are_several_rows, fits_crowd, shortfall
from surekeys.faults import NotAPaper
from surekeys.forms import RIGHT, has_form, wrong
from surekeys.kept import are_keepable, rows_alone, rows_left_out
from surekeys.needs import need_held_and_set, need_table_and_demand, need_table_and_set, need_worths
from surekeys.shapes import fits_rows, is_an_integer, is_number_below
from surekeys.targets import loosened
from surekeys.worlds import fits_world, has_open_unknown, is_key_of_world, keeps_demand
from surekeys.worthy import fits_block


def judge_kept(paper):
    _, columns, table, some, worths, rows, world, blocks = paper
    need_table_and_set(columns, table, some)
    need_worths(table, worths)
    if not fits_rows(table, rows):
        return wrong(0)
    if not fits_world(columns, rows_alone(table, rows), world):
        return wrong(1)
    if not is_key_of_world(world, some):
        return wrong(2)
    if not are_pairs_of(rows_left_out(table, rows), blocks):
        return wrong(3)
    for i, block in blocks:
        if not fits_block(columns, table, some, worths, rows, i, block):
            return wrong(4)
    return RIGHT


def are_pairs_of(numbers, value):
    """Whether any value is a tuple with a tuple of the number and something else for each of the numbers."""
    if not isinstance(value, tuple) or len(value) != len(numbers):
        return False
    return all([is_pair_of(i, pair) for i, pair in zip(numbers, value)])


def is_pair_of(i, value):
    return isinstance(value, tuple) and len(value) == 2 and is_an_integer(value[0]) and value[0] == i


def judge_always(paper):
    _, columns, table, some, rows, crowd, row = paper
    need_table_and_set(columns, table, some)
    if not fits_rows(table, rows) or not are_keepable(columns, table, some, rows):
        return wrong(0)
    if not fits_crowd(columns, table, some, crowd):
        return wrong(1)
    if shortfall(columns, table, some, crowd) != len(rows_left_out(table, rows)):
        return wrong(2)
    return RIGHT if is_number_below(row, len(table)) and row not in crowd else wrong(3)


def judge_changes(paper):
    _, columns, table, held, some, changes, world, prices = paper
    need_held_and_set(columns, table, held, some)
    if not fit_changes(columns, table, held, changes):
        return wrong(0)
    if not fits_world(columns, changed_table(table, changes), world):
        return wrong(1)
    if not is_key_of_world(world, some):
        return wrong(2)
    if not fit_prices(columns, table, held, some, prices):
        return wrong(3)
    return RIGHT if prices_come_to(prices) == len(changes) else wrong(4)


def judge_stuck(paper):
    _, columns, table, held, some, rows = paper
    need_held_and_set(columns, table, held, some)
    if not fits_rows(table, rows):
        return wrong(0)
    # What the rows reach is what they could have if all entries were unknown that are not held.
    too_few = are_several_rows(table, rows) and shortfall(columns, loosened(table, held), some, rows) > 0
    return RIGHT if too_few else wrong(1)


def judge_count(paper):
    _, columns, table, demand, number, tree = paper
    need_table_and_demand(columns, table, demand)
    if has_open_unknown(columns, table):
        return wrong(0)
    found = number_of_tree(columns, table, demand, tree)
    if found is None:
        return wrong(1)
    return RIGHT if is_an_integer(number) and number == found else wrong(2)


def judge_endless(paper):
    _, columns, table, demand, world = paper
    need_table_and_demand(columns, table, demand)
    if not has_open_unknown(columns, table):
        return wrong(0)
    if not fits_world(columns, table, world):
        return wrong(1)
    return RIGHT if keeps_demand(world, demand) else wrong(2)


FORMS = (("kept", 8), ("always", 7), ("changes", 8), ("stuck", 6), ("count", 6), ("endless", 5))
JUDGES = {"kept": judge_kept, "always": judge_always, "changes": judge_changes, "stuck": judge_stuck,
          "count": judge_count, "endless": judge_endless}


def check_paper(paper):
    """The result: that the paper is right, or the first condition that does not hold."""
    if not has_form(FORMS, paper):
        raise NotAPaper("the paper is not a tuple of one of the forms")
    judge = JUDGES[paper[0]]
    return judge(paper)
