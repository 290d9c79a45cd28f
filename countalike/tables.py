"""Tables: rows of a kind and two values, each there a certain number of times."""

from countalike.common import is_number, is_triple, number_of_word
from countalike.errors import NoKey, NoNumber, NoRows, NoTable, NoText, TooMuch

MOST_ROWS = 12
MOST_VALUE = 99
MOST_OFTEN = 10000
MOST_SCALE = 100
MOST_DIGIT = 9
DIGIT_BASE = 10


def is_key(thing):
    """Whether the thing is a tuple (kind, left, right) of a row."""
    return is_triple(thing, MOST_VALUE)


def is_row(thing):
    """Whether the thing is a tuple (kind, left, right, often)."""
    if not isinstance(thing, tuple) or len(thing) != 4:
        return False
    return is_key(thing[:3]) and is_number(thing[3], 1, MOST_OFTEN)


def are_rows(things):
    """Whether the things can be the rows of one table."""
    if len(things) > MOST_ROWS or not all([is_row(thing) for thing in things]):
        return False
    return len({row[:3] for row in things}) == len(things)


def text_of_rows(rows):
    """A line for each of the rows, in their order."""
    return "".join([f"{kind} {left} {right} {often}\n" for kind, left, right, often in rows])


def row_of_line(line):
    """What the line says, as a tuple that may be a row or not."""
    words = line.split(" ")
    numbers = [number_of_word(word) for word in words[1:]]
    return (words[0], *numbers)


def greatest_value(rows):
    """The greatest value of the rows, -1 if there are none."""
    return max([max(left, right) for kind, left, right, often in rows], default=-1)


def summed_rows(one, other):
    """The rows of both tables, each as often as in both together."""
    first = [(kind, left, right, often + other[kind, left, right]) for kind, left, right, often in one.rows]
    rest = [row for row in other.rows if one[row[:3]] == 0]
    return first + rest


def shifted_rows(rows, step):
    """The rows with values that are greater by the step."""
    return [(kind, left + step, right + step, often) for kind, left, right, often in rows]


def paired_rows(rows, others):
    """A row for each two rows of the same kind, with their values as tens and ones."""
    return [
        (kind, DIGIT_BASE * left + low_left, DIGIT_BASE * right + low_right, often * low_often)
        for kind, left, right, often in rows
        for low_kind, low_left, low_right, low_often in others
        if low_kind == kind
    ]


class Table:
    """At most 12 rows (kind, left, right, often), no two with the same kind, left and right."""

    def __init__(self, *rows):
        if not are_rows(rows):
            raise NoRows("a table has at most 12 different rows (kind, left, right, often)")
        self.kept = tuple(sorted(rows))

    @property
    def rows(self):
        """The tuple of the rows, ascending."""
        return self.kept

    def __len__(self):
        return len(self.kept)

    def __getitem__(self, at):
        if not is_key(at):
            raise NoKey("a key is a tuple (kind, left, right)")
        return sum([row[3] for row in self.kept if row[:3] == at])

    # Without this, Python would iterate over a table by asking for the keys 0, 1, ..
    def __iter__(self):
        raise TypeError("a table is not iterated over, its rows are")

    def __eq__(self, other):
        return isinstance(other, Table) and self.kept == other.kept

    def __repr__(self):
        return f"Table({len(self.kept)} rows)"

    def __add__(self, other):
        check_table(other)
        return table_within_limits(summed_rows(self, other))

    def __or__(self, other):
        check_table(other)
        step = greatest_value(self.kept) + 1
        beside = shifted_rows(other.kept, step)
        return table_within_limits([*self.kept, *beside])

    def __mul__(self, other):
        check_table(other)
        if greatest_value(self.kept) > MOST_DIGIT or greatest_value(other.kept) > MOST_DIGIT:
            raise TooMuch("only tables with values from 0 to 9 are multiplied")
        return table_within_limits(paired_rows(self.kept, other.kept))

    def scaled(self, k):
        """The table with each row k times as often."""
        if not is_number(k, 1, MOST_SCALE):
            raise NoNumber("a table is scaled with an integer from 1 to 100")
        return table_within_limits([(kind, left, right, k * often) for kind, left, right, often in self.kept])

    def text(self):
        """A line for each row, ascending."""
        return text_of_rows(self.kept)

    @classmethod
    def read(cls, text):
        """The table with exactly this text."""
        if not isinstance(text, str):
            raise NoText("a table is read from a text")
        rows = [row_of_line(line) for line in text.split("\n")[:-1]]
        # Many ways of writing give the same rows; only the one of text() is right.
        if not are_rows(rows) or text_of_rows(sorted(rows)) != text:
            raise NoText("this is not the text of a table")
        return cls(*rows)


def check_table(thing):
    """Raise NoTable unless the thing is a table."""
    if not isinstance(thing, Table):
        raise NoTable("a table is needed")


def table_within_limits(rows):
    """The table of these rows, which came from those of tables and may have become too many or too great."""
    if not are_rows(rows):
        raise TooMuch("a table has at most 12 rows, values up to 99 and numbers up to 10,000")
    return Table(*rows)
