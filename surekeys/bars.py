"""Stage 8: the least keys and the bars of key rules."""

from surekeys.needs import need_rules_and_kind
from surekeys.rules import set_follows
from surekeys.sets import all_sets, greatest_of, least_of


def least_keys(many, rules, kind):
    """The ascending list of the least keys."""
    need_rules_and_kind(many, rules, kind)
    return least_of([some for some in all_sets(many) if set_follows(rules, kind, some)])


def bars(many, rules, kind):
    """The ascending list of the bars."""
    need_rules_and_kind(many, rules, kind)
    return bars_of(many, rules, kind)


def bars_of(many, rules, kind):
    return greatest_of([some for some in all_sets(many) if not set_follows(rules, kind, some)])
