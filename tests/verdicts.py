"""What the checker has to tell of any value, written down a second time for the tests, straight from point 18."""

from surekeys import errors
from tests.judges import (choice_tree_is_right, is_integer, is_ruled_key, reason_is_right, rows_are_right,
                          ruled_table_is_right, rules_are_right, set_is_right, short_by, table_has_just_the_keys,
                          table_obeys, tree_is_right)
from tests.samples import keeps

RIGHT = ('right',)
FORMS = {'meeting': 5, 'key': 5, 'crowd': 5, 'tree': 5, 'reason': 6, 'against': 6, 'exact': 4, 'choices': 4}


def is_value(column, value):
    return is_integer(value) and value >= 0 and (column is None or value in column)


def columns_are_right(value):
    if type(value) is not tuple or not 1 <= len(value) <= 4:
        return False
    for column in value:
        if column is not None:
            if type(column) is not tuple or not 1 <= len(column) <= 3 or not all(is_value(None, v) for v in column):
                return False
            if list(column) != sorted(set(column)):
                return False
    return True


def table_is_right(columns, value):
    if type(value) is not tuple or len(value) > 8:
        return False
    for row in value:
        if type(row) is not tuple or len(row) != len(columns):
            return False
        if not all(entry is None or is_value(column, entry) for column, entry in zip(columns, row)):
            return False
    return sum(entry is None for row in value for entry in row) <= 6


def demand_is_right(columns, value):
    return type(value) is tuple and len(value) <= 4 and all(set_is_right(len(columns), some) for some in value)


def world_is_right(columns, table, value):
    if not table_is_right(columns, value) or len(value) != len(table):
        return False
    return all(new is not None and old in (None, new)
               for row, filled in zip(table, value) for old, new in zip(row, filled))


def first_failed(*conditions):
    """The result for these conditions, each a function that is called only if those before it hold."""
    for k, holds in enumerate(conditions):
        if not holds():
            return 'wrong', k
    return RIGHT


def certificate_outcome(value):
    """The result, or the error that is to be raised."""
    if type(value) is not tuple or not value or type(value[0]) is not str or FORMS.get(value[0]) != len(value):
        return errors.NotACertificate
    return outcome_of_table(*value) if value[0] in ('meeting', 'key', 'crowd', 'tree') else outcome_of_rules(*value)


def outcome_of_table(word, columns, table, some, shown):
    if not columns_are_right(columns):
        return errors.InvalidColumns
    if not table_is_right(columns, table):
        return errors.InvalidTable
    if word in ('meeting', 'crowd') and not set_is_right(len(columns), some):
        return errors.InvalidSet
    if word in ('key', 'tree') and not demand_is_right(columns, some):
        return errors.InvalidDemand
    if word == 'meeting':
        return first_failed(lambda: world_is_right(columns, table, shown), lambda: not keeps(shown, [some]))
    if word == 'key':
        return first_failed(lambda: world_is_right(columns, table, shown), lambda: keeps(shown, some))
    if word == 'crowd':
        return first_failed(lambda: rows_are_right(table, shown) and len(shown) > 1,
                            lambda: short_by(columns, table, some, shown) > 0)
    return first_failed(lambda: tree_is_right(columns, table, some, shown))


def outcome_of_rules(word, many, rules, *rest):
    if not is_integer(many) or not 1 <= many <= 4:
        return errors.InvalidNumber
    if not rules_are_right(many, rules):
        return errors.InvalidRules
    if word == 'exact':
        return first_failed(lambda: ruled_table_is_right(many, rest[0]),
                            lambda: table_has_just_the_keys(many, rules, rest[0]))
    if word == 'choices':
        return first_failed(lambda: choice_tree_is_right(many, rules, rest[0]))
    kind, some, shown = rest
    if type(kind) is not str or kind not in ('sure', 'possible'):
        return errors.InvalidKind
    if not set_is_right(many, some):
        return errors.InvalidSet
    if word == 'reason':
        return first_failed(lambda: reason_is_right(rules, kind, some, shown))
    return first_failed(lambda: ruled_table_is_right(many, shown) and len(shown) == 2,
                        lambda: table_obeys(many, rules, shown), lambda: not is_ruled_key(shown, kind, some))
