"""What the document calls right, written down a second time for the tests, straight from its definitions."""

from itertools import combinations, product


def is_integer(value):
    return type(value) is int


def is_number(value, limit):
    return is_integer(value) and 0 <= value < limit


def parts_in_worlds(columns, row, some):
    """The set of the parts that a row can have, or None if there are endlessly many."""
    if any(row[k] is None and columns[k] is None for k in some):
        return None
    return set(product(*[columns[k] if row[k] is None else (row[k],) for k in some]))


def rows_are_right(table, value):
    """Whether the value is rows of the table."""
    if type(value) is not tuple or not all(is_number(i, len(table)) for i in value):
        return False
    return list(value) == sorted(set(value))


def crowd_is_right(columns, table, some, value):
    return rows_are_right(table, value) and len(value) >= 2 and short_by(columns, table, some, value) > 0


def short_by(columns, table, some, rows):
    """The shortfall of the rows if they are a crowd, otherwise a number that is not greater than 0."""
    parts = [parts_in_worlds(columns, table[i], some) for i in rows]
    return 0 if None in parts else len(rows) - len(set().union(*parts))


def all_rows(table):
    """All rows of the table, few first."""
    return [rows for many in range(len(table) + 1) for rows in combinations(range(len(table)), many)]


def all_crowds(columns, table, some):
    return [rows for rows in all_rows(table) if crowd_is_right(columns, table, some, rows)]


def has_crowd(columns, table, some):
    return any(crowd_is_right(columns, table, some, rows) for rows in all_rows(table))


def all_keepable(columns, table, some):
    """All keepable rows: a set is a possible key of rows alone exactly if no crowd is among them."""
    crowds = [set(rows) for rows in all_crowds(columns, table, some)]
    return [rows for rows in all_rows(table) if not any(crowd <= set(rows) for crowd in crowds)]


def left_out(table, rows):
    return [i for i in range(len(table)) if i not in rows]


def block_is_right(columns, table, some, worths, rows, i, value):
    if not crowd_is_right(columns, table, some, value) or i not in value:
        return False
    return all(j == i or j in rows and worths[j] >= worths[i] for j in value)


def has_block(columns, table, some, worths, rows, i):
    return any(block_is_right(columns, table, some, worths, rows, i, value)
               for value in all_crowds(columns, table, some))


def alike(table, i, j, some):
    return all(table[i][k] is not None and table[i][k] == table[j][k] for k in some)


def tree_is_right(columns, table, demand, tree):
    if type(tree) is not tuple or len(tree) != 4 or type(tree[0]) is not str:
        return False
    word, one, two, rest = tree
    if word == 'twins':
        return (is_number(one, len(table)) and is_number(two, len(table)) and one < two
                and is_number(rest, len(demand)) and alike(table, one, two, demand[rest]))
    if not is_number(one, len(table)) or not is_number(two, len(columns)) or table[one][two] is not None:
        return False
    if word == 'new':
        known = [row[two] for row in table if row[two] is not None]
        new = max(known) + 1 if known else 0
        return columns[two] is None and tree_is_right(columns, put(table, one, two, new), demand, rest)
    if word != 'split' or columns[two] is None or type(rest) is not tuple or len(rest) != len(columns[two]):
        return False
    return all(tree_is_right(columns, put(table, one, two, value), demand, part)
               for value, part in zip(columns[two], rest))


def put(table, i, k, value):
    rows = [list(row) for row in table]
    rows[i][k] = value
    return tuple(tuple(row) for row in rows)


def rules_are_right(many, value):
    if type(value) is not tuple or len(value) != 3:
        return False
    known, sure, possible = value
    if not set_is_right(many, known):
        return False
    return all(type(sets) is tuple and len(sets) <= 6 and all(set_is_right(many, some) for some in sets)
               for sets in (sure, possible))


def set_is_right(many, value):
    return (type(value) is tuple and all(is_number(k, many) for k in value)
            and all(one < two for one, two in zip(value, value[1:])))


def ruled_table_is_right(many, value):
    if type(value) is not tuple or len(value) > 40:
        return False
    return all(type(row) is tuple and len(row) == many and all(e is None or is_integer(e) and e >= 0 for e in row)
               for row in value)


def is_ruled_key(table, kind, some):
    """Whether the set is a sure or a possible key of a table, all columns of which are open."""
    for one, two in combinations(table, 2):
        if kind == 'sure' and all(one[k] is None or two[k] is None or one[k] == two[k] for k in some):
            return False
        if kind == 'possible' and all(one[k] is not None and one[k] == two[k] for k in some):
            return False
    return True


def table_obeys(many, rules, value):
    if not ruled_table_is_right(many, value):
        return False
    known, sure, possible = rules
    if any(row[k] is None for row in value for k in known):
        return False
    return (all(is_ruled_key(value, 'sure', some) for some in sure)
            and all(is_ruled_key(value, 'possible', some) for some in possible))


def reason_is_right(rules, kind, some, value):
    known, sure, possible = rules
    if type(value) is not tuple or len(value) != 2:
        return False
    word, k = value
    if word == 'sure':
        return is_number(k, len(sure)) and set(sure[k]) <= set(some)
    if word != 'possible' or not is_number(k, len(possible)) or not set(possible[k]) <= set(some):
        return False
    return kind == 'possible' or set(possible[k]) <= set(known)


def has_reason(rules, kind, some):
    return any(reason_is_right(rules, kind, some, (word, k)) for word in ('sure', 'possible') for k in range(6))


def keys_that_follow(many, rules, kind):
    return [some for some in all_sets_of(many) if has_reason(rules, kind, some)]


def all_sets_of(many):
    return sorted(some for count in range(many + 1) for some in combinations(range(many), count))


def bars_by_definition(many, rules, kind):
    follow = keys_that_follow(many, rules, kind)
    others = [some for some in all_sets_of(many) if some not in follow]
    return [some for some in others if not any(set(some) < set(other) for other in others)]


def least_keys_by_definition(many, rules, kind):
    follow = keys_that_follow(many, rules, kind)
    return [some for some in follow if not any(set(other) < set(some) for other in follow)]


def table_has_just_the_keys(many, rules, value):
    if not ruled_table_is_right(many, value) or any(row[k] is None for row in value for k in rules[0]):
        return False
    return all(is_ruled_key(value, kind, some) == has_reason(rules, kind, some)
               for kind in ('sure', 'possible') for some in all_sets_of(many))


def choice_is_right(rules, bar, first, second):
    known = rules[0]
    taken = set(first) | set(second)
    if first > second or set(first) & set(second) or not taken <= set(bar) - set(known):
        return False

    def enough(columns):
        return not has_reason(rules, 'possible', tuple(k for k in bar if k not in columns))

    return enough(taken) and not any(enough(taken - {k}) for k in taken)


def choices_by_definition(many, rules, bar):
    sets = all_sets_of(many)
    return [(first, second) for first in sets for second in sets if choice_is_right(rules, bar, first, second)]


def choice_tree_is_right(many, rules, value):
    return offered_tree_is_right(rules, offers_by_definition(many, rules), {}, value)


def offers_by_definition(many, rules):
    """The choices for each bar of "sure"."""
    return [choices_by_definition(many, rules, bar) for bar in bars_by_definition(many, rules, 'sure')]


def offered_tree_is_right(rules, offers, made, value):
    if type(value) is not tuple or len(value) != 3 or type(value[0]) is not str:
        return False
    word, one, two = value
    if word == 'clash':
        for place in (one, two):
            if type(place) is not tuple or len(place) != 2 or not all(is_integer(number) for number in place):
                return False
            if place[0] not in made or place[1] not in (0, 1):
                return False
        columns = set(made[one[0]][one[1]]) | set(made[two[0]][two[1]])
        return one < two and one[0] != two[0] and has_reason(rules, 'sure', tuple(sorted(columns)))
    if word != 'choose' or not is_number(one, len(offers)) or one in made:
        return False
    if type(two) is not tuple or len(two) != len(offers[one]):
        return False
    return all(offered_tree_is_right(rules, offers, {**made, one: choice}, tree)
               for choice, tree in zip(offers[one], two))


def payment(row, some, target):
    return sum(row[k] is not None and row[k] != value for k, value in zip(some, target))


def reaches(held, i, row, some, target):
    return all((i, k) not in held or row[k] == value for k, value in zip(some, target))


def target_pool(columns, table, some, others=(), new=1):
    """Targets of the set: in open columns only those values that stand in the table or in the others, and new ones.

    Values that stand nowhere are alike for all rows, so what holds for the new ones holds for all of them.
    """
    choices = []
    for place, k in enumerate(some):
        seen = {row[k] for row in table if row[k] is not None} | {target[place] for target in others}
        fresh = max(seen, default=-1) + 1
        choices.append(sorted(seen) + list(range(fresh, fresh + new)) if columns[k] is None else columns[k])
    return list(product(*choices))


def held_is_right(table, value):
    if type(value) is not tuple:
        return False
    for place in value:
        if type(place) is not tuple or len(place) != 2 or not is_number(place[0], len(table)):
            return False
        if not is_number(place[1], len(table[place[0]])) or table[place[0]][place[1]] is None:
            return False
    return list(value) == sorted(set(value))


def changes_are_right(columns, table, held, value):
    if type(value) is not tuple:
        return False
    for change in value:
        if type(change) is not tuple or len(change) != 3 or not held_is_right(table, (change[:2],)):
            return False
        i, k, entry = change
        if not is_integer(entry) or entry < 0 or entry == table[i][k] or (i, k) in held:
            return False
        if columns[k] is not None and entry not in columns[k]:
            return False
    places = [change[:2] for change in value]
    return list(value) == sorted(value) and len(set(places)) == len(places)


def least_paid(columns, table, held, some):
    """The least that the rows pay if each is given a target of its own, by all ways to do so, or None."""
    pool = target_pool(columns, table, some, new=len(table))
    offers = [{target: payment(row, some, target) for target in pool if reaches(held, i, row, some, target)}
              for i, row in enumerate(table)]
    return least_of_ways([sorted(offer.items(), key=lambda item: item[1]) for offer in offers], (), 1000)


def least_of_ways(offers, used, bound):
    """The least that is less than the bound, or None."""
    if not offers:
        return 0
    found = None
    for target, paid in offers[0]:
        if paid >= bound:
            return found
        rest = None if target in used else least_of_ways(offers[1:], used + (target,), bound - paid)
        if rest is not None:
            found = bound = paid + rest
    return found


def stuck_rows_are_right(columns, table, held, some, value):
    if not rows_are_right(table, value) or len(value) < 2:
        return False
    # With as many new values as rows, targets that are endlessly many are too many for these.
    pool = target_pool(columns, table, some, new=len(value))
    return sum(any(reaches(held, i, table[i], some, target) for i in value) for target in pool) < len(value)


def prices_are_right(columns, table, held, some, value):
    if type(value) is not tuple or len(value) != 2 or not all(type(part) is tuple for part in value):
        return False
    of_rows, of_targets = value
    if len(of_rows) != len(table) or not all(is_integer(number) for number in of_rows):
        return False
    for entry in of_targets:
        if type(entry) is not tuple or len(entry) != 2 or not is_integer(entry[1]) or entry[1] <= 0:
            return False
        if type(entry[0]) is not tuple or len(entry[0]) != len(some):
            return False
        if not all(is_integer(v) and v >= 0 and (columns[k] is None or v in columns[k]) for k, v in zip(some, entry[0])):
            return False
    targets = [target for target, _ in of_targets]
    if list(of_targets) != sorted(of_targets) or len(set(targets)) != len(targets):
        return False
    listed = dict(of_targets)
    return all(of_rows[i] - listed.get(target, 0) <= payment(row, some, target)
               for target in target_pool(columns, table, some, targets)
               for i, row in enumerate(table) if reaches(held, i, row, some, target))


def price_sum(value):
    return sum(value[0]) - sum(price for _, price in value[1])


def has_open_unknown(columns, table):
    return any(row[k] is None and columns[k] is None for row in table for k in range(len(columns)))


def count_tree_number(columns, table, demand, value):
    """The number of the value, if it is a count tree, otherwise None."""
    if has_open_unknown(columns, table) or type(value) is not tuple or not value or type(value[0]) is not str:
        return None
    if value == ('sure',):
        meet = any(all(None in (one[k], two[k]) or one[k] == two[k] for k in some)
                   for some in demand for one, two in combinations(table, 2))
        unknown = [columns[k] for row in table for k, entry in enumerate(row) if entry is None]
        return None if meet else len(list(product(*unknown)))
    if len(value) != 4:
        return None
    if value[0] == 'twins':
        return 0 if tree_is_right(columns, table, demand, value) else None
    word, i, k, trees = value
    if word != 'split' or not is_number(i, len(table)) or not is_number(k, len(columns)) or table[i][k] is not None:
        return None
    if type(trees) is not tuple or len(trees) != len(columns[k]):
        return None
    numbers = [count_tree_number(columns, put(table, i, k, entry), demand, tree) for entry, tree in zip(columns[k], trees)]
    return None if None in numbers else sum(numbers)
