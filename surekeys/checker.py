"""Stage 12: the checker of certificates.

Each judge looks at the certificates of one form: first at the entries whose errors the document names, then at the
conditions in their order.
"""

from surekeys.crowds import are_several_rows, shortfall
from surekeys.errors import NotACertificate
from surekeys.exact import fits_whole_choice_tree, has_just_the_keys
from surekeys.forms import RIGHT, has_form, wrong
from surekeys.needs import need_rules, need_rules_kind_and_set, need_table_and_demand, need_table_and_set
from surekeys.rules import fits_reason, is_ruled_key, table_obeys
from surekeys.several import fits_tree
from surekeys.shapes import fits_ruled_table
from surekeys.worlds import fits_world, is_key_of_world, keeps_demand


def judge_meeting(certificate):
    _, columns, table, some, world = certificate
    need_table_and_set(columns, table, some)
    if not fits_world(columns, table, world):
        return wrong(0)
    return wrong(1) if is_key_of_world(world, some) else RIGHT


def judge_key(certificate):
    _, columns, table, demand, world = certificate
    need_table_and_demand(columns, table, demand)
    if not fits_world(columns, table, world):
        return wrong(0)
    return RIGHT if keeps_demand(world, demand) else wrong(1)


def judge_crowd(certificate):
    _, columns, table, some, rows = certificate
    need_table_and_set(columns, table, some)
    if not are_several_rows(table, rows):
        return wrong(0)
    return RIGHT if shortfall(columns, table, some, rows) > 0 else wrong(1)


def judge_tree(certificate):
    _, columns, table, demand, tree = certificate
    need_table_and_demand(columns, table, demand)
    return RIGHT if fits_tree(columns, table, demand, tree) else wrong(0)


def judge_reason(certificate):
    _, many, rules, kind, some, reason = certificate
    need_rules_kind_and_set(many, rules, kind, some)
    return RIGHT if fits_reason(rules, kind, some, reason) else wrong(0)


def judge_against(certificate):
    _, many, rules, kind, some, table = certificate
    need_rules_kind_and_set(many, rules, kind, some)
    if not fits_ruled_table(many, table) or len(table) != 2:
        return wrong(0)
    if not table_obeys(rules, table):
        return wrong(1)
    return wrong(2) if is_ruled_key(table, kind, some) else RIGHT


def judge_exact(certificate):
    _, many, rules, table = certificate
    need_rules(many, rules)
    if not fits_ruled_table(many, table):
        return wrong(0)
    return RIGHT if has_just_the_keys(many, rules, table) else wrong(1)


def judge_choices(certificate):
    _, many, rules, tree = certificate
    need_rules(many, rules)
    return RIGHT if fits_whole_choice_tree(many, rules, tree) else wrong(0)


FORMS = (("meeting", 5), ("key", 5), ("crowd", 5), ("tree", 5), ("reason", 6), ("against", 6), ("exact", 4),
         ("choices", 4))
JUDGES = {"meeting": judge_meeting, "key": judge_key, "crowd": judge_crowd, "tree": judge_tree,
          "reason": judge_reason, "against": judge_against, "exact": judge_exact, "choices": judge_choices}


def check(certificate):
    """The result of the checker: that the certificate is right, or the first condition that does not hold."""
    if not has_form(FORMS, certificate):
        raise NotACertificate("the certificate is not a tuple of one of the forms")
    judge = JUDGES[certificate[0]]
    return judge(certificate)
