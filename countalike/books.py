"""Books: tables that change, with watched questions and with changes that can be taken back.

Each class has every method of the interface in its own body; what is not its own affair is handed on by super.
"""

from countalike.common import is_number
from countalike.errors import NoKey, NoNumber, NothingDone, NotMirrored, TooOften
from countalike.questions import check_question, count_of
from countalike.tables import MOST_OFTEN, check_table, is_key, table_within_limits


def check_put(kind, left, right, often):
    """Raise NoKey or NoNumber unless these can be put into a book."""
    if not is_key((kind, left, right)):
        raise NoKey("a row is put by its kind and two values")
    if not is_number(often, 0, MOST_OFTEN):
        raise NoNumber("a row is put with an integer from 0 to 10,000")


def check_most(thing):
    """Raise NoNumber unless the thing can be the most of a capped book."""
    if not is_number(thing, 1, MOST_OFTEN):
        raise NoNumber("a book is capped at an integer from 1 to 10,000")


def check_often(often, most):
    """Raise TooOften if a row would be there more often than most."""
    if often > most:
        raise TooOften(f"this book has rows at most {most} times")


def check_rows_often(table, most):
    """Raise TooOften if a row of the table is there more often than most."""
    for row in table.rows:
        check_often(row[3], most)


def check_mirrored(table):
    """Raise NotMirrored unless each row is as often as the one with its values exchanged."""
    if not all([table[kind, right, left] == often for kind, left, right, often in table.rows]):
        raise NotMirrored("this book has each row as often as its mirror image")


def mirrored_keys(kind, left, right):
    """The key and the one with the values exchanged; only one if they are the same."""
    return sorted({(kind, left, right), (kind, right, left)})


def table_with(table, keys, often):
    """The table with the rows of these keys so often, and with its other rows as they are."""
    others = [row for row in table.rows if row[:3] not in keys]
    rows = [(kind, left, right, often) for kind, left, right in keys if often > 0]
    return table_within_limits(others + rows)


def counts_in(table, questions):
    """The tuple of the counts of the questions in the table."""
    return tuple([count_of(question, table) for question in questions])


class Trying:
    """What a with statement uses to set a book back if an exception leaves the block."""

    def __init__(self, book):
        self.book = book

    def __enter__(self):
        # Not before: the block begins here, and the book may have changed since this object was made.
        self.held = self.book.held
        self.watched = self.book.watched
        self.past = list(self.book.past)
        return self.book

    def __exit__(self, kind, value, trace):
        if kind is not None:
            self.book.held = self.held
            self.book.watched = self.watched
            self.book.past = self.past
        return False


class Book:
    """A table that changes, the watched questions, and what both were before each change."""

    def __init__(self, table):
        check_table(table)
        self.held = table
        self.watched = ()
        self.past = []

    @property
    def table(self):
        """The table as it is now; assigning one is a change."""
        return self.held

    @table.setter
    def table(self, value):
        self.assign_table(value)

    def change(self, table, questions):
        """Have this table and these questions from now on, as one change."""
        self.past.append((self.held, self.watched))
        self.held = table
        self.watched = questions

    def assign_table(self, table):
        """Have this table from now on."""
        check_table(table)
        self.change(table, self.watched)

    def put(self, kind, left, right, often):
        """Make this row be there so often, 0 for not at all."""
        check_put(kind, left, right, often)
        self.change(table_with(self.held, [(kind, left, right)], often), self.watched)

    def __call__(self, kind, left, right, often):
        self.put(kind, left, right, often)

    def watch(self, question):
        """Put the question behind the watched ones."""
        check_question(question)
        self.change(self.held, (*self.watched, question))

    @property
    def questions(self):
        """The tuple of the watched questions."""
        return self.watched

    @property
    def counts(self):
        """The tuple of the counts of the watched questions in the table."""
        return counts_in(self.held, self.watched)

    @property
    def changes(self):
        """How many changes have not been taken back."""
        return len(self.past)

    def undo(self):
        """Take back the last change that has not been taken back."""
        if len(self.past) == 0:
            raise NothingDone("there is no change that could be taken back")
        self.held, self.watched = self.past.pop()

    def trying(self):
        """An object for one with statement, which sets the book back if an exception leaves the block."""
        return Trying(self)

    def __len__(self):
        return len(self.held)

    def __repr__(self):
        return f"Book({len(self.held)} rows)"


class Mirrored(Book):
    """A book in which each row is as often as the one with its values exchanged."""

    def __init__(self, table):
        check_table(table)
        check_mirrored(table)
        super().__init__(table)

    @property
    def table(self):
        """The table as it is now; assigning a mirrored one is a change."""
        return self.held

    @table.setter
    def table(self, value):
        self.assign_table(value)

    def assign_table(self, table):
        """Have this mirrored table from now on."""
        check_table(table)
        check_mirrored(table)
        super().assign_table(table)

    def put(self, kind, left, right, often):
        """Make this row and its mirror image be there so often, as one change."""
        check_put(kind, left, right, often)
        self.change(table_with(self.held, mirrored_keys(kind, left, right), often), self.watched)

    def __call__(self, kind, left, right, often):
        self.put(kind, left, right, often)

    def watch(self, question):
        """Put the question behind the watched ones."""
        super().watch(question)

    @property
    def questions(self):
        """The tuple of the watched questions."""
        return self.watched

    @property
    def counts(self):
        """The tuple of the counts of the watched questions in the table."""
        return counts_in(self.held, self.watched)

    @property
    def changes(self):
        """How many changes have not been taken back."""
        return len(self.past)

    def undo(self):
        """Take back the last change that has not been taken back."""
        super().undo()

    def trying(self):
        """An object for one with statement, which sets the book back if an exception leaves the block."""
        return super().trying()

    def __len__(self):
        return len(self.held)

    def __repr__(self):
        return f"Mirrored({len(self.held)} rows)"


class Capped(Book):
    """A book in which no row is there more often than most."""

    def __init__(self, table, most=9):
        check_table(table)
        check_most(most)
        check_rows_often(table, most)
        super().__init__(table)
        self.cap = most

    @property
    def most(self):
        """How often a row may be there."""
        return self.cap

    @property
    def table(self):
        """The table as it is now; assigning one with no row too often is a change."""
        return self.held

    @table.setter
    def table(self, value):
        self.assign_table(value)

    def assign_table(self, table):
        """Have this table from now on, if no row is there too often."""
        check_table(table)
        check_rows_often(table, self.cap)
        super().assign_table(table)

    def put(self, kind, left, right, often):
        """Make this row be there so often, at most as often as most says."""
        check_put(kind, left, right, often)
        check_often(often, self.cap)
        super().put(kind, left, right, often)

    def __call__(self, kind, left, right, often):
        self.put(kind, left, right, often)

    def watch(self, question):
        """Put the question behind the watched ones."""
        super().watch(question)

    @property
    def questions(self):
        """The tuple of the watched questions."""
        return self.watched

    @property
    def counts(self):
        """The tuple of the counts of the watched questions in the table."""
        return counts_in(self.held, self.watched)

    @property
    def changes(self):
        """How many changes have not been taken back."""
        return len(self.past)

    def undo(self):
        """Take back the last change that has not been taken back."""
        super().undo()

    def trying(self):
        """An object for one with statement, which sets the book back if an exception leaves the block."""
        return super().trying()

    def __len__(self):
        return len(self.held)

    def __repr__(self):
        return f"Capped({len(self.held)} rows)"


# Capped stands first, so that a row that is there too often is refused before one that is not mirrored.
class CappedMirror(Capped, Mirrored):
    """A book that is both capped and mirrored."""

    def __init__(self, table, most=9):
        super().__init__(table, most)

    @property
    def most(self):
        """How often a row may be there."""
        return self.cap

    @property
    def table(self):
        """The table as it is now; assigning a mirrored one with no row too often is a change."""
        return self.held

    @table.setter
    def table(self, value):
        self.assign_table(value)

    def assign_table(self, table):
        """Have this mirrored table from now on, if no row is there too often."""
        super().assign_table(table)

    def put(self, kind, left, right, often):
        """Make this row and its mirror image be there so often, at most as often as most says."""
        super().put(kind, left, right, often)

    def __call__(self, kind, left, right, often):
        self.put(kind, left, right, often)

    def watch(self, question):
        """Put the question behind the watched ones."""
        super().watch(question)

    @property
    def questions(self):
        """The tuple of the watched questions."""
        return self.watched

    @property
    def counts(self):
        """The tuple of the counts of the watched questions in the table."""
        return counts_in(self.held, self.watched)

    @property
    def changes(self):
        """How many changes have not been taken back."""
        return len(self.past)

    def undo(self):
        """Take back the last change that has not been taken back."""
        super().undo()

    def trying(self):
        """An object for one with statement, which sets the book back if an exception leaves the block."""
        return super().trying()

    def __len__(self):
        return len(self.held)

    def __repr__(self):
        return f"CappedMirror({len(self.held)} rows)"
