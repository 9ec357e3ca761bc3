"""Stage 14: rows of the most worth, and the blocks of the rows that are left out.

Rows that are put to the kept ones in the order of their worths, the greatest first, come to the most worth: where a row
can not be put, it is because of rows of no less worth, and among these lies its block.
"""

from surekeys.crowds import crowd_of, fits_crowd
from surekeys.kept import are_keepable, kept_in_order, rows_alone, rows_left_out
from surekeys.needs import need_rows, need_table_and_set, need_worths


def most_worth(columns, table, some, worths):
    """Keepable rows that leave out only rows with a block."""
    need_table_and_set(columns, table, some)
    need_worths(table, worths)
    return worthiest_rows(columns, table, some, worths, ())


def blocks_of(columns, table, some, worths, rows):
    """A tuple with a tuple (row, block) for each row left out, or None if the rows are not keepable or one has none."""
    need_table_and_set(columns, table, some)
    need_worths(table, worths)
    need_rows(table, rows)
    if not are_keepable(columns, table, some, rows):
        return None
    blocks = [(i, block_of(columns, table, some, worths, rows, i)) for i in rows_left_out(table, rows)]
    return None if None in [block for _, block in blocks] else tuple(blocks)


def worthiest_rows(columns, table, some, worths, favoured):
    """Keepable rows that leave out only rows with a block; of rows of one worth, the favoured ones are kept first."""
    order = sorted([(-worths[i], i not in favoured, i) for i in range(len(table))])
    return kept_in_order(columns, table, some, (), [i for _, _, i in order])


def block_of(columns, table, some, worths, rows, i):
    """A block of row i, which the keepable rows leave out, or None."""
    # Row i stands last: the others can have parts of their own, so it is the one that finds none and is in the crowd.
    near = [j for j in rows if worths[j] >= worths[i]] + [i]
    found = crowd_of(columns, rows_alone(table, near), some)
    return None if found is None else tuple(sorted([near[j] for j in found]))


def fits_block(columns, table, some, worths, rows, i, value):
    """Whether any value is a block of row i, which the rows leave out."""
    if not fits_crowd(columns, table, some, value) or i not in value:
        return False
    return all([j == i or (j in rows and worths[j] >= worths[i]) for j in value])
