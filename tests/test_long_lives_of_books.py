"""Long runs of changes of all four classes of books, beside a plain record of what must be there (points 60, 61)."""

import unittest

from countalike.books import Book, Capped, CappedMirror, Mirrored
from countalike.errors import (
    CountError, NoKey, NoNumber, NoQuestion, NoTable, NotMirrored, NothingDone, TooMuch, TooOften,
)
from countalike.questions import Question
from countalike.tables import Table
from tests.samples import count_by_values, dice, picture, random_question, random_table

CLASSES = (Book, Mirrored, Capped, CappedMirror)


class Left(Exception):
    """An exception of the tests' own."""


class Record:
    """What a book must hold: dicts of rows, lists of questions, and all of them before each change."""

    def __init__(self, table, mirrored, most):
        self.mirrored = mirrored
        self.most = most
        self.states = [(self.rows_of(table), [])]

    def rows_of(self, table):
        return {row[:3]: row[3] for row in table.rows}

    def save(self):
        return list(self.states)

    def assign(self, table):
        if not isinstance(table, Table):
            return NoTable
        rows = self.rows_of(table)
        if max(rows.values(), default=0) > self.most:
            return TooOften
        if self.mirrored and rows != {(kind, right, left): rows[kind, left, right] for kind, left, right in rows}:
            return NotMirrored
        self.states.append((rows, self.states[-1][1]))

    def put(self, kind, left, right, often):
        if kind not in ("A", "B", "C") or not 0 <= left <= 99 or not 0 <= right <= 99:
            return NoKey
        if isinstance(often, bool) or not 0 <= often <= 10000:
            return NoNumber
        if often > self.most:
            return TooOften
        rows = dict(self.states[-1][0])
        for key in ((kind, left, right), (kind, right, left))[:1 + self.mirrored]:
            rows[key] = often
        rows = {key: rows[key] for key in rows if rows[key]}
        if len(rows) > 12:
            return TooMuch
        self.states.append((rows, self.states[-1][1]))

    def watch(self, question):
        if not isinstance(question, Question):
            return NoQuestion
        rows, questions = self.states[-1]
        self.states.append((rows, questions + [question]))

    def undo(self):
        if len(self.states) == 1:
            return NothingDone
        self.states.pop()


def mirrored_table(die):
    table = random_table(die, die.randint(0, 5), 3, die.choice((3, 9, 12)), "AB")
    rows = {}
    for kind, left, right, often in table.rows:
        rows[kind, left, right] = rows[kind, right, left] = often
    return Table(*[(*key, often) for key, often in rows.items()])


def any_step(die):
    """The name of a change, and its arguments, some of them wrong."""
    step = die.choice(("put", "put", "put", "call", "call", "assign", "watch", "undo", "undo", "property"))
    if step in ("put", "call"):
        kind = die.choice("AAB" if die.random() < 0.97 else "D")
        left = die.randint(0, 3) if die.random() < 0.97 else 100
        return step, (kind, left, die.randint(0, 3), die.choice((0, 1, 2, 3, 4, 9, 10, 10000, 10001, True)))
    if step in ("assign", "property"):
        return step, (die.choice((mirrored_table(die), mirrored_table(die), random_table(die, 3, 3), None)),)
    if step == "watch":
        return step, (die.choice((random_question(die, die.randint(1, 3), [0, 1, 2], "AB"), "A01")),)
    return step, ()


class LongLives(unittest.TestCase):
    def check(self, book, record):
        rows, questions = record.states[-1]
        table = Table(*[(*key, often) for key, often in rows.items()])
        self.assertEqual(picture(book.table), picture(table))
        self.assertEqual(picture(book.questions), picture(tuple(questions)))
        self.assertEqual(book.changes, len(record.states) - 1)
        self.assertEqual(repr(book), f"{book.__class__.__name__}({len(rows)} rows)")
        self.assertEqual(len(book), len(rows))

    def check_counts(self, book):
        self.assertEqual(book.counts, tuple(count_by_values(question, book.table) for question in book.questions))

    def step(self, book, record, step, arguments):
        """Do the same to both, and expect the same error."""
        calls = {"put": book.put, "call": book, "assign": book.assign_table, "watch": book.watch, "undo": book.undo}
        calls["property"] = lambda table: setattr(book, "table", table)
        names = {"call": "put", "property": "assign"}
        expected = getattr(record, names.get(step, step))(*arguments)
        raised = None
        try:
            self.assertIs(calls[step](*arguments), None)
        except CountError as caught:
            raised = type(caught)
        self.assertIs(raised, expected, (step, arguments))
        self.check(book, record)
        return raised

    def block(self, book, record, die, depth):
        """Some steps under trying, perhaps with blocks inside, left by an exception or not."""
        saved = record.save()
        leaves = die.random() < 0.6
        try:
            with book.trying():
                for turn in range(die.randint(0, 5)):
                    self.step(book, record, *any_step(die))
                    if depth and die.random() < 0.3:
                        self.block(book, record, die, depth - 1)
                if leaves:
                    raise Left
        except Left:
            self.assertTrue(leaves)
            record.states = saved
        self.check(book, record)

    def test_all_classes(self):
        seen = {}
        for seed in range(60):
            die = dice(seed)
            made = CLASSES[seed % 4]
            most = (10000, 10000, 9, 9)[seed % 4]
            table = Table(("A", 0, 1, 2), ("A", 1, 0, 2))
            book, record = made(table), Record(table, issubclass(made, Mirrored), most)
            for turn in range(60):
                raised = self.step(book, record, *any_step(die))
                seen[made, raised] = seen.get((made, raised), 0) + 1
                if turn % 10 == 0:
                    self.block(book, record, die, 2)
                    self.check_counts(book)
            while book.changes:
                self.step(book, record, "undo", ())
            self.assertIs(self.step(book, record, "undo", ()), NothingDone)
            self.assertEqual((book.table, book.questions), (table, ()))
        for made in CLASSES:
            for raised in (None, NoKey, NoNumber, NoTable, NoQuestion, TooMuch):
                self.assertIn((made, raised), seen)
            self.assertIs((made, TooOften) in seen, issubclass(made, Capped))
            self.assertIs((made, NotMirrored) in seen, issubclass(made, Mirrored))


if __name__ == "__main__":
    unittest.main()
