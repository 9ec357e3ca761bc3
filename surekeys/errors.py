"""The errors of the package, one class for each kind of failure."""


class KeyRuleError(ValueError):
    """What all errors of the package have in common."""


class InvalidColumns(KeyRuleError):
    """The value is not columns."""


class InvalidRow(KeyRuleError):
    """The value is not a row of the columns."""


class InvalidTable(KeyRuleError):
    """The value is not a table of the columns."""


class InvalidSet(KeyRuleError):
    """The value is not a set of the columns."""


class InvalidDemand(KeyRuleError):
    """The value is not a demand."""


class InvalidRules(KeyRuleError):
    """The value is not key rules."""


class InvalidKind(KeyRuleError):
    """The value is not a kind of key."""


class InvalidNumber(KeyRuleError):
    """The value is not the number or the name of anything that is there."""


class InvalidWorld(KeyRuleError):
    """The table has unknown entries where a world is wanted."""


class InvalidEntry(KeyRuleError):
    """The entry is known where an unknown one is wanted, or the other way round."""


class InvalidValue(KeyRuleError):
    """The value is not a value of the column."""


class NotACertificate(KeyRuleError):
    """The value has none of the forms of a certificate."""


class InvalidMark(KeyRuleError):
    """There is no mark with this number."""

    def __init__(self, number):
        super().__init__("there is no mark with this number")
        self.number = number


class Full(KeyRuleError):
    """There is no room for more than the limit."""

    def __init__(self, limit):
        super().__init__("there is no room for more")
        self.limit = limit


class Impossible(KeyRuleError):
    """No world would keep the demand; the tree shows it."""

    def __init__(self, tree):
        super().__init__("no world would keep the demand")
        self.tree = tree
