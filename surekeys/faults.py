"""The errors of the stages 13 to 18, one class for each kind of failure."""

from surekeys.errors import KeyRuleError


class InvalidRows(KeyRuleError):
    """The value is not rows of the table, or not such rows as are wanted."""


class InvalidWorths(KeyRuleError):
    """The value is not worths of the rows of the table."""


class InvalidHeld(KeyRuleError):
    """The value is not held entries of the table."""


class InvalidChanges(KeyRuleError):
    """The value is not changes of the table."""


class NotAPaper(KeyRuleError):
    """The value has none of the forms of a paper."""
