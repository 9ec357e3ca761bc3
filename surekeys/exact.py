"""Stage 9: tables that have just the keys that follow, and choice trees where there is none.

Such a table needs, for each bar, two rows that meet in it or are alike in it, as it is one of "sure" or of "possible".
The two that meet in a bar of "sure" must not be alike in a set within it that follows with "possible"; a choice tells
which entries of the one and of the other are unknown for this. Rows for different bars have no value in common, so they
meet just where their entries are unknown: if this set follows, there is a clash.
"""

from surekeys.bars import bars_of
from surekeys.errors import InvalidSet
from surekeys.needs import need_rules, need_set_of
from surekeys.pairs import differences_of, likenesses_of
from surekeys.rules import is_possible_by, is_sure_by, knows, set_follows
from surekeys.sets import all_sets, least_of, sets_within, united, without
from surekeys.shapes import fits_ruled_table, is_number_below


def choices(many, rules, some):
    """The ascending list of the choices for a bar of "sure"."""
    need_rules(many, rules)
    need_set_of(many, some)
    if some not in bars_of(many, rules, "sure"):
        raise InvalidSet("this is no bar of the kind sure")
    return choices_for(rules, some)


def exact(many, rules):
    """A table that has just the keys, or None."""
    need_rules(many, rules)
    chosen, _ = chosen_or_tree(rules, offers_of(many, rules), ())
    return None if chosen is None else table_of_choices(many, rules, chosen)


def choice_tree(many, rules):
    """A choice tree, or None."""
    need_rules(many, rules)
    _, tree = chosen_or_tree(rules, offers_of(many, rules), ())
    return tree


def is_exact(many, rules, value):
    """True if the value is a table that has just the keys, otherwise False."""
    need_rules(many, rules)
    return fits_ruled_table(many, value) and has_just_the_keys(many, rules, value)


def is_choice_tree(many, rules, value):
    """True if the value is a choice tree, otherwise False."""
    need_rules(many, rules)
    return fits_whole_choice_tree(many, rules, value)


def choices_for(rules, bar):
    free = without(bar, rules[0])
    enough = [some for some in sets_within(free) if not set_follows(rules, "possible", without(bar, some))]
    return sorted([choice for some in least_of(enough) for choice in divisions(some)])


def divisions(some):
    """All tuples of two sets, the first not greater than the second, into which this set can be divided."""
    return [(first, without(some, first)) for first in sets_within(some) if first <= without(some, first)]


def offers_of(many, rules):
    """The choices for each bar of "sure"."""
    return [choices_for(rules, bar) for bar in bars_of(many, rules, "sure")]


def chosen_or_tree(rules, offers, chosen):
    """A tuple (choices, None), with a choice for each bar and without a clash, or (None, tree).

    A choice is made for the bars one after the other; those that are made already are given.
    """
    clash = clash_of_last(rules, chosen)
    if clash is not None:
        return None, clash
    k = len(chosen)
    if k == len(offers):
        return chosen, None
    trees = []
    for choice in offers[k]:
        whole, tree = chosen_or_tree(rules, offers, chosen + (choice,))
        if whole is not None:
            return whole, None
        trees.append(tree)
    return None, ("choose", k, tuple(trees))


def clash_of_last(rules, chosen):
    """A clash of the last choice with one before it, or None."""
    last = len(chosen) - 1
    for k in range(last):
        for half in (0, 1):
            for other_half in (0, 1):
                if set_follows(rules, "sure", united(chosen[k][half], chosen[last][other_half])):
                    return ("clash", (k, half), (last, other_half))
    return None


def table_of_choices(many, rules, chosen):
    """The table of these choices for the bars of "sure", with rows that are alike in the bars of "possible"."""
    pairs = list(zip(bars_of(many, rules, "sure"), chosen))
    pairs = pairs + [(bar, ((), ())) for bar in bars_of(many, rules, "possible")]
    if not pairs:
        return ((0,) * many,)
    rows = []
    for number, (bar, choice) in enumerate(pairs):
        rows.extend(rows_of_bar(many, 2 * number, bar, choice))
    return tuple(rows)


def rows_of_bar(many, value, bar, choice):
    """Two rows with this value and, outside of the bar in the second one, the next one, or unknown as chosen."""
    first, second = choice
    one = tuple([None if k in first else value for k in range(many)])
    other = tuple([None if k in second else value if k in bar else value + 1 for k in range(many)])
    return [one, other]


def has_just_the_keys(many, rules, table):
    if not knows(table, rules[0]):
        return False
    differences, likenesses = differences_of(table), likenesses_of(table)
    for some in all_sets(many):
        if is_sure_by(differences, some) != set_follows(rules, "sure", some):
            return False
        if is_possible_by(likenesses, some) != set_follows(rules, "possible", some):
            return False
    return True


def fits_whole_choice_tree(many, rules, value):
    """Whether any value is a choice tree at whose beginning no choice is made."""
    offers = offers_of(many, rules)
    return fits_choice_tree(rules, offers, (None,) * len(offers), value)


def fits_choice_tree(rules, offers, chosen, value):
    """Whether any value is a choice tree, where chosen has the choice for each bar, or None if none was made."""
    if not isinstance(value, tuple) or len(value) != 3:
        return False
    word, k, rest = value
    if word == "clash":
        return is_clash(rules, chosen, k, rest)
    if word != "choose" or not is_number_below(k, len(chosen)) or chosen[k] is not None:
        return False
    if not isinstance(rest, tuple) or len(rest) != len(offers[k]):
        return False
    for choice, tree in zip(offers[k], rest):
        if not fits_choice_tree(rules, offers, chosen[:k] + (choice,) + chosen[k + 1:], tree):
            return False
    return True


def is_clash(rules, chosen, one, other):
    """Whether any two values are the places of two halves of choices that clash."""
    if not is_half(chosen, one) or not is_half(chosen, other) or one[0] >= other[0]:
        return False
    k, half = one
    last, other_half = other
    return set_follows(rules, "sure", united(chosen[k][half], chosen[last][other_half]))


def is_half(chosen, value):
    """Whether any value is a tuple (k, half) of a bar for which a choice was made and 0 or 1."""
    if not isinstance(value, tuple) or len(value) != 2:
        return False
    k, half = value
    return is_number_below(k, len(chosen)) and chosen[k] is not None and is_number_below(half, 2)
