"""The errors of Countalike."""


class CountError(ValueError):
    """The base of all errors of this package."""


class NoRows(CountError):
    """The rows are not those of a table."""


class NoKey(CountError):
    """The key is not a kind with two values."""


class NoNumber(CountError):
    """The number is not an integer within its limits."""


class NoText(CountError):
    """The text is not that of a table or of a question."""


class NoTable(CountError):
    """A table is needed."""


class NoAtoms(CountError):
    """The atoms are not those of a question."""


class NoQuestion(CountError):
    """A question is needed."""


class TooMuch(CountError):
    """The result is beyond the limits of a table or of a question."""


class TooOften(CountError):
    """A row is there more often than a book lets."""


class NotMirrored(CountError):
    """A row is not as often as its mirror image."""


class NothingDone(CountError):
    """There is no change that could be taken back."""
