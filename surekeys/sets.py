"""Sets of columns, which are ascending tuples."""


def is_within(some, other):
    return all([k in other for k in some])


def share_a_column(some, other):
    return any([k in other for k in some])
