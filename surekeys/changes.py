"""Stage 15: the fewest changes that make a set a possible key, and prices that show that there are no fewer."""

from surekeys.crowds import crowd_of
from surekeys.faults import InvalidChanges
from surekeys.fillings import with_entry
from surekeys.giving import cheapest_targets, least_prices
from surekeys.needs import need_held, need_held_and_set, need_table
from surekeys.shapes import fits_known_entry, is_an_integer, is_ascending, is_known_place
from surekeys.targets import loosened, new_payment, old_payments, payments


def are_changes(columns, table, held, value):
    """True if the value is changes that fit the held entries, otherwise False."""
    need_held(columns, table, held)
    return fit_changes(columns, table, held, value)


def changed(columns, table, changes):
    """The changed table."""
    need_table(columns, table)
    if not fit_changes(columns, table, (), changes):
        raise InvalidChanges("these are not changes of the table")
    return changed_table(table, changes)


def fewest_changes(columns, table, held, some):
    """Changes that fit and make the set a possible key, as few as there can be, or None."""
    need_held_and_set(columns, table, held, some)
    given = cheapest_targets(payments(columns, table, held, some))
    if given is None:
        return None
    return tuple([change for i, target in enumerate(given) for change in changes_of_row(table, some, i, target)])


def stuck_rows(columns, table, held, some):
    """Rows that reach too few targets, or None."""
    need_held_and_set(columns, table, held, some)
    return crowd_of(columns, loosened(table, held), some)


def prices(columns, table, held, some):
    """Prices that come to the number of the fewest changes, or None if there are no changes."""
    need_held_and_set(columns, table, held, some)
    costs = payments(columns, table, held, some)
    given = cheapest_targets(costs)
    return None if given is None else prices_of(costs, given)


def are_prices(columns, table, held, some, value):
    """True if the value is prices, otherwise False."""
    need_held_and_set(columns, table, held, some)
    return fit_prices(columns, table, held, some, value)


def fit_changes(columns, table, held, value):
    """Whether any value is changes that fit the held entries."""
    if not isinstance(value, tuple) or not all([is_change(columns, table, entry) for entry in value]):
        return False
    places = [(i, k) for i, k, _ in value]
    return is_ascending(places) and not any([place in held for place in places])


def is_change(columns, table, value):
    """Whether any value is a tuple (row, column, value) that gives a known entry another value of its column."""
    if not isinstance(value, tuple) or len(value) != 3 or not is_known_place(table, value[:2]):
        return False
    i, k, entry = value
    return fits_known_entry(columns[k], entry) and entry != table[i][k]


def changed_table(table, changes):
    for i, k, entry in changes:
        table = with_entry(table, i, k, entry)
    return table


def changes_of_row(table, some, i, target):
    """The changes by which row i can have the target as its part."""
    row = table[i]
    return [(i, k, value) for k, value in zip(some, target) if row[k] is not None and row[k] != value]


def prices_of(costs, given):
    """The prices, where each row is given the target for which it pays so much."""
    raised = least_prices(costs, given)
    of_rows = tuple([costs[i][target] + raised[i] for i, target in enumerate(given)])
    of_targets = sorted([(target, price) for target, price in zip(given, raised) if price > 0])
    return of_rows, tuple(of_targets)


def fit_prices(columns, table, held, some, value):
    """Whether any value is prices."""
    if not isinstance(value, tuple) or len(value) != 2:
        return False
    of_rows, of_targets = value
    if not isinstance(of_rows, tuple) or len(of_rows) != len(table) or not all([is_an_integer(n) for n in of_rows]):
        return False
    if not fit_prices_of_targets(columns, some, of_targets):
        return False
    price_of = {target: price for target, price in of_targets}
    for i, number in enumerate(of_rows):
        if not is_low_enough(columns, table, held, some, i, number, price_of):
            return False
    return True


def fit_prices_of_targets(columns, some, value):
    """Whether any value is an ascending tuple of tuples (target, price) with different targets of the set."""
    if not isinstance(value, tuple) or not all([is_priced_target(columns, some, entry) for entry in value]):
        return False
    return is_ascending([target for target, _ in value])


def is_priced_target(columns, some, value):
    if not isinstance(value, tuple) or len(value) != 2:
        return False
    target, price = value
    if not isinstance(target, tuple) or len(target) != len(some) or not is_an_integer(price) or price <= 0:
        return False
    return all([fits_known_entry(columns[k], entry) for k, entry in zip(some, target)])


def is_low_enough(columns, table, held, some, i, number, price_of):
    """Whether row i's number, less the price of any target that it reaches, is at most what it pays for it."""
    # Of the endlessly many targets with new values, only some are listed: the number is at most what the others cost.
    least = new_payment(columns, table, held, some, i)
    if least is not None and number > least:
        return False
    costs = old_payments(columns, table, held, some, i)
    return all([number - price_of.get(target, 0) <= costs[target] for target in costs])


def prices_come_to(value):
    """What the prices come to."""
    of_rows, of_targets = value
    return sum(of_rows) - sum([price for _, price in of_targets])
