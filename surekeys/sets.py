"""Sets of columns, which are ascending tuples."""


def is_within(some, other):
    return all([k in other for k in some])


def share_a_column(some, other):
    return any([k in other for k in some])


def without(some, other):
    """The set of the columns of the first one that are not in the other."""
    return tuple([k for k in some if k not in other])


def united(some, other):
    return tuple(sorted(some + without(other, some)))


def sets_within(some):
    """The ascending list of all sets within this one."""
    found = [()]
    for k in some:
        found = found + [begun + (k,) for begun in found]
    return sorted(found)


def all_sets(many):
    """The ascending list of all sets of so many columns."""
    return sets_within(tuple(range(many)))


def least_of(sets):
    """Those of the different sets within which no other one lies, in the same order."""
    return [some for some in sets if not any([other != some and is_within(other, some) for other in sets])]


def greatest_of(sets):
    """Those of the different sets that lie within no other one, in the same order."""
    return [some for some in sets if not any([other != some and is_within(some, other) for other in sets])]
