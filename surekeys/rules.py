"""Stage 7: key rules, what follows from them, and tables against it."""

from surekeys.needs import need_many, need_rules, need_rules_kind_and_set
from surekeys.pairs import differences_of, likenesses_of
from surekeys.sets import is_within, share_a_column
from surekeys.shapes import fits_ruled_table, fits_rules, is_number_below


def is_rules(many, value):
    """True if the value is key rules for so many columns, otherwise False."""
    need_many(many)
    return fits_rules(many, value)


def obeys(many, rules, value):
    """True if the value is a table that obeys the rules, otherwise False."""
    need_rules(many, rules)
    return fits_ruled_table(many, value) and table_obeys(rules, value)


def follows(many, rules, kind, some):
    """True if the set follows, with this kind, otherwise False."""
    need_rules_kind_and_set(many, rules, kind, some)
    return set_follows(rules, kind, some)


def reason(many, rules, kind, some):
    """A reason for the set and the kind, or None."""
    need_rules_kind_and_set(many, rules, kind, some)
    return reason_for(rules, kind, some)


def against(many, rules, kind, some):
    """A table of two rows that obeys the rules and in which the set is no key of this kind, or None."""
    need_rules_kind_and_set(many, rules, kind, some)
    return None if set_follows(rules, kind, some) else table_against(many, rules, kind, some)


def set_follows(rules, kind, some):
    return reason_for(rules, kind, some) is not None


def reason_for(rules, kind, some):
    known, sure, possible = rules
    for k, rule in enumerate(sure):
        if is_within(rule, some):
            return ("sure", k)
    for k, rule in enumerate(possible):
        if possible_serves(known, kind, some, rule):
            return ("possible", k)
    return None


def possible_serves(known, kind, some, rule):
    """Whether the set follows, with this kind, from this one of the possible keys."""
    # A possible key whose entries are always known is a sure one.
    return is_within(rule, some) and (kind == "possible" or is_within(rule, known))


def fits_reason(rules, kind, some, value):
    """Whether any value is a reason for the set and the kind."""
    if not isinstance(value, tuple) or len(value) != 2:
        return False
    known, sure, possible = rules
    word, k = value
    if word == "sure":
        return is_number_below(k, len(sure)) and is_within(sure[k], some)
    if word != "possible" or not is_number_below(k, len(possible)):
        return False
    return possible_serves(known, kind, some, possible[k])


def table_against(many, rules, kind, some):
    """Two rows that differ outside of the set and, within it, are alike, or meet where an entry may be unknown."""
    known = rules[0]
    second = [0 if k in some else 1 for k in range(many)]
    if kind == "sure":
        second = [None if k in some and k not in known else second[k] for k in range(many)]
    return ((0,) * many, tuple(second))


def table_obeys(rules, table):
    known, sure, possible = rules
    if not knows(table, known):
        return False
    differences, likenesses = differences_of(table), likenesses_of(table)
    if not all([is_sure_by(differences, some) for some in sure]):
        return False
    return all([is_possible_by(likenesses, some) for some in possible])


def knows(table, known):
    """Whether the table has no unknown entry in the known columns."""
    return all([row[k] is not None for row in table for k in known])


def is_ruled_key(table, kind, some):
    """Whether the set is a key of this kind of the table, all columns of which are open."""
    if kind == "sure":
        return is_sure_by(differences_of(table), some)
    return is_possible_by(likenesses_of(table), some)


def is_sure_by(differences, some):
    """Whether the set is a sure key of the table that has these differences of rows."""
    return all([share_a_column(some, other) for other in differences])


def is_possible_by(likenesses, some):
    """Whether the set is a possible key of the table that has these greatest sets in which rows are alike.

    All columns are open here, so rows that are not alike can be made different all at once.
    """
    return not any([is_within(some, other) for other in likenesses])
