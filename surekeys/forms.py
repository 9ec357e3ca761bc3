"""What certificates and papers have in common: their forms, and the results of checking them."""

RIGHT = ("right",)


def wrong(k):
    """The result where k is the number of the first condition that does not hold."""
    return ("wrong", k)


def has_form(forms, value):
    """Whether any value is a tuple of one of the forms, each given by its first entry and its length."""
    return isinstance(value, tuple) and len(value) > 0 and (value[0], len(value)) in forms
