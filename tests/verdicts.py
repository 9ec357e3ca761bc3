"""What the two checkers have to tell of any value, written down a second time for the tests, from points 18 and 29."""

from surekeys import errors, faults
from tests.judges import (block_is_right, changes_are_right, choice_tree_is_right, count_tree_number, crowd_is_right,
                          has_crowd, has_open_unknown, held_is_right, is_integer, is_number, is_ruled_key, left_out,
                          price_sum, prices_are_right, put, reason_is_right, rows_are_right, ruled_table_is_right,
                          rules_are_right, set_is_right, short_by, stuck_rows_are_right, table_has_just_the_keys,
                          table_obeys, tree_is_right)
from tests.samples import keeps

RIGHT = ('right',)
FORMS = {'meeting': 5, 'key': 5, 'crowd': 5, 'tree': 5, 'reason': 6, 'against': 6, 'exact': 4, 'choices': 4}
PAPERS = {'kept': 8, 'always': 7, 'changes': 8, 'stuck': 6, 'count': 6, 'endless': 5}


def is_value(column, value):
    return is_integer(value) and value >= 0 and (column is None or value in column)


def columns_are_right(value):
    if type(value) is not tuple or not 1 <= len(value) <= 4:
        return False
    for column in value:
        if column is not None:
            if type(column) is not tuple or not 1 <= len(column) <= 3 or not all(is_value(None, v) for v in column):
                return False
            if list(column) != sorted(set(column)):
                return False
    return True


def table_is_right(columns, value):
    if type(value) is not tuple or len(value) > 8:
        return False
    for row in value:
        if type(row) is not tuple or len(row) != len(columns):
            return False
        if not all(entry is None or is_value(column, entry) for column, entry in zip(columns, row)):
            return False
    return sum(entry is None for row in value for entry in row) <= 6


def demand_is_right(columns, value):
    return type(value) is tuple and len(value) <= 4 and all(set_is_right(len(columns), some) for some in value)


def world_is_right(columns, table, value):
    if not table_is_right(columns, value) or len(value) != len(table):
        return False
    return all(new is not None and old in (None, new)
               for row, filled in zip(table, value) for old, new in zip(row, filled))


def first_failed(*conditions):
    """The result for these conditions, each a function that is called only if those before it hold."""
    for k, holds in enumerate(conditions):
        if not holds():
            return 'wrong', k
    return RIGHT


def certificate_outcome(value):
    """The result, or the error that is to be raised."""
    if type(value) is not tuple or not value or type(value[0]) is not str or FORMS.get(value[0]) != len(value):
        return errors.NotACertificate
    return outcome_of_table(*value) if value[0] in ('meeting', 'key', 'crowd', 'tree') else outcome_of_rules(*value)


def outcome_of_table(word, columns, table, some, shown):
    if not columns_are_right(columns):
        return errors.InvalidColumns
    if not table_is_right(columns, table):
        return errors.InvalidTable
    if word in ('meeting', 'crowd') and not set_is_right(len(columns), some):
        return errors.InvalidSet
    if word in ('key', 'tree') and not demand_is_right(columns, some):
        return errors.InvalidDemand
    if word == 'meeting':
        return first_failed(lambda: world_is_right(columns, table, shown), lambda: not keeps(shown, [some]))
    if word == 'key':
        return first_failed(lambda: world_is_right(columns, table, shown), lambda: keeps(shown, some))
    if word == 'crowd':
        return first_failed(lambda: rows_are_right(table, shown) and len(shown) > 1,
                            lambda: short_by(columns, table, some, shown) > 0)
    return first_failed(lambda: tree_is_right(columns, table, some, shown))


def outcome_of_rules(word, many, rules, *rest):
    if not is_integer(many) or not 1 <= many <= 4:
        return errors.InvalidNumber
    if not rules_are_right(many, rules):
        return errors.InvalidRules
    if word == 'exact':
        return first_failed(lambda: ruled_table_is_right(many, rest[0]),
                            lambda: table_has_just_the_keys(many, rules, rest[0]))
    if word == 'choices':
        return first_failed(lambda: choice_tree_is_right(many, rules, rest[0]))
    kind, some, shown = rest
    if type(kind) is not str or kind not in ('sure', 'possible'):
        return errors.InvalidKind
    if not set_is_right(many, some):
        return errors.InvalidSet
    if word == 'reason':
        return first_failed(lambda: reason_is_right(rules, kind, some, shown))
    return first_failed(lambda: ruled_table_is_right(many, shown) and len(shown) == 2,
                        lambda: table_obeys(many, rules, shown), lambda: not is_ruled_key(shown, kind, some))


def paper_outcome(value):
    """The result, or the error that is to be raised."""
    if type(value) is not tuple or not value or type(value[0]) is not str or PAPERS.get(value[0]) != len(value):
        return faults.NotAPaper
    word, columns, table = value[:3]
    if not columns_are_right(columns):
        return errors.InvalidColumns
    if not table_is_right(columns, table):
        return errors.InvalidTable
    if word in ('changes', 'stuck') and not held_is_right(table, value[3]):
        return faults.InvalidHeld
    some = value[4 if word in ('changes', 'stuck') else 3]
    if word in ('count', 'endless'):
        return outcome_of_count(*value) if demand_is_right(columns, some) else errors.InvalidDemand
    if not set_is_right(len(columns), some):
        return errors.InvalidSet
    if word in ('changes', 'stuck'):
        return outcome_of_changes(*value)
    if word == 'kept' and not worths_are_right(table, value[4]):
        return faults.InvalidWorths
    return outcome_of_kept(*value[1:]) if word == 'kept' else outcome_of_always(*value[1:])


def worths_are_right(table, value):
    return type(value) is tuple and len(value) == len(table) and all(is_value(None, worth) for worth in value)


def alone(table, rows):
    return tuple(table[i] for i in rows)


def outcome_of_kept(columns, table, some, worths, rows, world, blocks):
    def for_each_left_out():
        if type(blocks) is not tuple or not all(type(pair) is tuple and len(pair) == 2 for pair in blocks):
            return False
        return repr([pair[0] for pair in blocks]) == repr(left_out(table, rows))

    return first_failed(lambda: rows_are_right(table, rows), lambda: world_is_right(columns, alone(table, rows), world),
                        lambda: keeps(world, [some]), for_each_left_out,
                        lambda: all(block_is_right(columns, table, some, worths, rows, i, block) for i, block in blocks))


def outcome_of_always(columns, table, some, rows, crowd, row):
    return first_failed(lambda: rows_are_right(table, rows) and not has_crowd(columns, alone(table, rows), some),
                        lambda: crowd_is_right(columns, table, some, crowd),
                        lambda: short_by(columns, table, some, crowd) == len(left_out(table, rows)),
                        lambda: is_number(row, len(table)) and row not in crowd)


def outcome_of_changes(word, columns, table, held, some, *shown):
    if word == 'stuck':
        return first_failed(lambda: rows_are_right(table, shown[0]),
                            lambda: stuck_rows_are_right(columns, table, held, some, shown[0]))
    changes, world, prices = shown

    def after():
        changed = table
        for i, k, entry in changes:
            changed = put(changed, i, k, entry)
        return changed

    return first_failed(lambda: changes_are_right(columns, table, held, changes),
                        lambda: world_is_right(columns, after(), world), lambda: keeps(world, [some]),
                        lambda: prices_are_right(columns, table, held, some, prices),
                        lambda: price_sum(prices) == len(changes))


def outcome_of_count(word, columns, table, demand, *shown):
    if word == 'endless':
        return first_failed(lambda: has_open_unknown(columns, table), lambda: world_is_right(columns, table, shown[0]),
                            lambda: keeps(shown[0], demand))
    number, tree = shown
    return first_failed(lambda: not has_open_unknown(columns, table),
                        lambda: count_tree_number(columns, table, demand, tree) is not None,
                        lambda: is_integer(number) and number == count_tree_number(columns, table, demand, tree))
