"""Book, and what the four classes of books have in common (points 2, 3 and 60)."""

import unittest

from countalike.books import Book, Capped, CappedMirror, Mirrored
from countalike.errors import NoKey, NoNumber, NoQuestion, NoTable, NothingDone, TooMuch
from countalike.questions import Question
from countalike.tables import Table
from tests.samples import any_values, check_refused, no_integers, no_kinds, no_triples, picture

CLASSES = (Book, Mirrored, Capped, CappedMirror)
FRIENDS = Table(("A", 0, 1, 2), ("A", 1, 2, 1), ("A", 1, 1, 3))
PAIRS = Table(("A", 0, 1, 2), ("A", 1, 0, 2), ("A", 1, 1, 3))
TWELVE = Table(*[("A", at, at, 1) for at in range(12)])
CHAIN = Question.read("A01 A12")
LOOP = Question.read("A00")


class Left(Exception):
    """An exception of the tests' own."""


def no_tables():
    return any_values() + [CHAIN, FRIENDS.rows, FRIENDS.text(), [FRIENDS], (FRIENDS,), Book(FRIENDS)]


def no_questions():
    return any_values() + [FRIENDS, Table(), CHAIN.atoms, CHAIN.text(), [CHAIN], (CHAIN,), Book(FRIENDS)]


def assign(book, table):
    book.table = table


def busy_book(made):
    """A book with five changes."""
    book = made(PAIRS)
    book.watch(CHAIN)
    book.put("B", 3, 3, 4)
    book.watch(LOOP)
    book.table = PAIRS.scaled(2)
    book("A", 5, 5, 1)
    return book


class New(unittest.TestCase):
    def test_ordinary(self):
        book = Book(FRIENDS)
        self.assertEqual(book.table, FRIENDS)
        self.assertEqual(picture((book.questions, book.counts, book.changes)), picture(((), (), 0)))
        self.assertEqual(len(book), 3)

    def test_none_to_twelve_rows(self):
        for many in (0, 1, 11, 12):
            table = Table(*TWELVE.rows[:many])
            for made in CLASSES:
                book = made(table)
                self.assertEqual(picture(book.table), picture(table))
                self.assertEqual(len(book), many)
                self.assertEqual(repr(book), f"{made.__name__}({many} rows)")

    def test_no_table(self):
        for made in CLASSES:
            for wrong in no_tables():
                check_refused(self, NoTable, made, wrong)

    def test_books_of_one_table_are_apart(self):
        for made in CLASSES:
            one, other = made(PAIRS), made(PAIRS)
            one.put("A", 7, 7, 1)
            one.watch(CHAIN)
            self.assertEqual((other.table, other.questions, other.changes), (PAIRS, (), 0))
            self.assertEqual(len(PAIRS), 3)

    def test_properties_without_assignment(self):
        for made in CLASSES:
            book = busy_book(made)
            before = picture(book)
            for name in ("questions", "counts", "changes"):
                with self.assertRaises(AttributeError):
                    setattr(book, name, ())
            self.assertEqual(picture(book), before)


class Tables(unittest.TestCase):
    def test_assigned(self):
        for change in (assign, Book.assign_table):
            book = Book(FRIENDS)
            self.assertIs(change(book, TWELVE), None)
            self.assertEqual(picture((book.table, book.changes, len(book))), picture((TWELVE, 1, 12)))
            change(book, TWELVE)
            change(book, Table())
            self.assertEqual(picture((book.table, book.changes, len(book))), picture((Table(), 3, 0)))
            self.assertEqual(len(FRIENDS), 3)

    def test_assign_table_returns_none(self):
        for made in CLASSES:
            self.assertIs(made(PAIRS).assign_table(TWELVE), None)

    def test_no_table(self):
        for made in CLASSES:
            book = busy_book(made)
            for wrong in no_tables():
                check_refused(self, NoTable, book.assign_table, wrong)
                check_refused(self, NoTable, assign, book, wrong)
            self.assertEqual(picture(book), picture(busy_book(made)))


class Put(unittest.TestCase):
    def test_new_row(self):
        book = Book(FRIENDS)
        self.assertIs(book.put("B", 0, 99, 10000), None)
        self.assertEqual(book.table.rows, (*FRIENDS.rows, ("B", 0, 99, 10000)))
        self.assertEqual((len(book), book.changes), (4, 1))

    def test_calling_does_the_same(self):
        for made in CLASSES:
            one, other = made(PAIRS), made(PAIRS)
            for put in (("A", 1, 1, 5), ("C", 2, 4, 9), ("A", 0, 1, 0), ("B", 0, 0, 0)):
                self.assertIs(one.put(*put), None)
                self.assertIs(other(*put), None)
                self.assertEqual(picture(one), picture(other))
            self.assertEqual(other.changes, 4)

    def test_by_keywords(self):
        for made in CLASSES:
            book = made(table=PAIRS)
            book.put(kind="A", left=4, right=4, often=2)
            book(kind="A", left=5, right=5, often=3)
            self.assertEqual(book.table, PAIRS + Table(("A", 4, 4, 2), ("A", 5, 5, 3)))

    def test_row_that_is_there(self):
        book = Book(FRIENDS)
        for often in (1, 2, 9999, 10000, 3):
            book.put("A", 0, 1, often)
            self.assertEqual(book.table[("A", 0, 1)], often)
            self.assertEqual(book.table.rows[1:], FRIENDS.rows[1:])
        self.assertEqual(book.changes, 5)

    def test_not_at_all(self):
        book = Book(FRIENDS)
        book.put("A", 0, 1, 0)
        self.assertEqual(book.table.rows, FRIENDS.rows[1:])
        book.put("A", 0, 1, 0)
        self.assertEqual(book.table.rows, FRIENDS.rows[1:])
        self.assertEqual(book.changes, 2)

    def test_a_thirteenth_row(self):
        for made in CLASSES:
            book = made(Table(*TWELVE.rows[:11]))
            book.put("A", 50, 50, 1)
            before = picture(book)
            check_refused(self, TooMuch, book.put, "B", 0, 0, 1)
            check_refused(self, TooMuch, book, "A", 99, 99, 9)
            self.assertEqual(picture(book), before)
            book.put("B", 0, 0, 0)
            book.put("A", 50, 50, 2)
            book.put("A", 50, 50, 0)
            book.put("B", 0, 0, 1)
            self.assertEqual((len(book), book.changes), (12, 5))

    def test_no_key(self):
        for made in CLASSES:
            book = busy_book(made)
            for wrong in [thing for thing in no_triples(99) if isinstance(thing, tuple) and len(thing) == 3]:
                for often in (0, 1, None, True, 10001):
                    check_refused(self, NoKey, book.put, *wrong, often)
                    check_refused(self, NoKey, book, *wrong, often)
            for kind in no_kinds():
                check_refused(self, NoKey, book.put, kind, None, True, -1)
            check_refused(self, NoKey, book.put, ("A", 0, 1), 0, 1, 1)
            self.assertEqual(picture(book), picture(busy_book(made)))

    def test_no_number(self):
        for made in CLASSES:
            for book in (made(Table()), made(TWELVE)):
                before = picture(book)
                for wrong in no_integers() + [-1, 10001, 10002, 10 ** 12, -(10 ** 12)]:
                    check_refused(self, NoNumber, book.put, "A", 0, 0, wrong)
                    check_refused(self, NoNumber, book.put, "B", 0, 99, wrong)
                    check_refused(self, NoNumber, book, "B", 0, 99, wrong)
                self.assertEqual(picture(book), before)


class Watch(unittest.TestCase):
    def test_behind_the_others(self):
        for made in CLASSES:
            book = made(PAIRS)
            for question in (CHAIN, LOOP, CHAIN, Question.read("A12 A01")):
                self.assertIs(book.watch(question), None)
            self.assertEqual([question.text() for question in book.questions], ["A01 A12", "A00", "A01 A12", "A12 A01"])
            self.assertIsInstance(book.questions, tuple)
            self.assertEqual(picture((book.counts, book.changes)), picture(((29, 3, 29, 29), 4)))

    def test_counts_follow_the_table(self):
        book = Book(FRIENDS)
        book.watch(CHAIN)
        book.watch(LOOP)
        self.assertEqual(picture(book.counts), picture((20, 3)))
        book.put("A", 1, 1, 0)
        self.assertEqual(picture(book.counts), picture((2, 0)))
        book.table = Table()
        self.assertEqual(picture(book.counts), picture((0, 0)))
        book.table = TWELVE
        self.assertEqual(picture(book.counts), picture((12, 12)))

    def test_no_question(self):
        for made in CLASSES:
            book = busy_book(made)
            for wrong in no_questions():
                check_refused(self, NoQuestion, book.watch, wrong)
            self.assertEqual(picture(book), picture(busy_book(made)))


class Undo(unittest.TestCase):
    def test_back_to_the_start_and_once_more(self):
        changes = [
            lambda book: book.watch(CHAIN), lambda book: book.put("B", 3, 3, 4), lambda book: book.put("B", 3, 3, 4),
            lambda book: book("C", 1, 2, 0), lambda book: assign(book, PAIRS), lambda book: book.watch(CHAIN),
            lambda book: book.assign_table(book.table), lambda book: book("B", 1, 7, 3), lambda book: book.watch(LOOP),
        ]
        for made in CLASSES:
            book = made(PAIRS)
            pictures = []
            for at, change in enumerate(changes):
                pictures.append(picture(book))
                change(book)
                self.assertEqual(book.changes, at + 1)
            for at, former in reversed(list(enumerate(pictures))):
                self.assertIs(book.undo(), None)
                self.assertEqual(picture(book), former)
                self.assertEqual(book.changes, at)
            for turn in range(2):
                check_refused(self, NothingDone, book.undo)
                self.assertEqual(picture(book), pictures[0])

    def test_what_was_refused_is_not_taken_back(self):
        for made in CLASSES:
            book = made(PAIRS)
            book.put("A", 5, 5, 1)
            check_refused(self, NoNumber, book.put, "A", 5, 5, 10001)
            check_refused(self, NoQuestion, book.watch, 1)
            check_refused(self, NoTable, assign, book, 1)
            book.undo()
            self.assertEqual((book.table, book.changes), (PAIRS, 0))

    def test_other_changes_behind_an_undo(self):
        for made in CLASSES:
            book = made(PAIRS)
            book.put("A", 5, 5, 1)
            book.put("A", 6, 6, 1)
            book.undo()
            book.put("A", 7, 7, 1)
            self.assertEqual((book.table, book.changes), (PAIRS + Table(("A", 5, 5, 1), ("A", 7, 7, 1)), 2))
            book.undo()
            book.undo()
            self.assertEqual((book.table, book.changes), (PAIRS, 0))
            check_refused(self, NothingDone, book.undo)

    def test_many_changes(self):
        for made in CLASSES:
            book = made(PAIRS)
            for turn in range(2000):
                book.put("A", 5, 5, turn % 10)
            self.assertEqual(book.changes, 2000)
            for turn in range(2000):
                book.undo()
            self.assertEqual((book.table, book.changes), (PAIRS, 0))


class Trying(unittest.TestCase):
    def work(self, book):
        book.put("A", 8, 8, 8)
        book.watch(LOOP)
        book.table = TWELVE
        book.undo()

    def leave(self, book, error):
        with book.trying():
            self.work(book)
            raise error

    def test_a_block_that_ends_well(self):
        for made in CLASSES:
            book, other = busy_book(made), busy_book(made)
            with book.trying():
                self.work(book)
            self.work(other)
            self.assertEqual(picture(book), picture(other))
            self.assertEqual(book.changes, 7)
            for turn in range(7):
                book.undo()
            self.assertEqual((book.table, book.questions), (PAIRS, ()))

    def test_a_block_that_is_left_by_return_or_break(self):
        for made in CLASSES:
            book = busy_book(made)
            for turn in range(3):
                with book.trying():
                    self.work(book)
                    break
            self.assertEqual(book.changes, 7)

    def test_a_block_that_an_exception_leaves(self):
        for made in CLASSES:
            book = busy_book(made)
            for error in (Left("left"), KeyError(1), NoKey("no"), TypeError(), KeyboardInterrupt(), SystemExit()):
                with self.assertRaises(type(error)) as caught:
                    self.leave(book, error)
                self.assertIs(caught.exception, error)
                self.assertEqual(picture(book), picture(busy_book(made)))

    def test_an_exception_of_the_book(self):
        for made in CLASSES:
            book = busy_book(made)
            with self.assertRaises(NoQuestion):
                with book.trying():
                    book.put("A", 8, 8, 8)
                    book.watch(None)
            self.assertEqual(picture(book), picture(busy_book(made)))

    def test_an_exception_inside_the_block_only(self):
        for made in CLASSES:
            book = busy_book(made)
            with book.trying():
                book.put("A", 8, 8, 8)
                with self.assertRaises(NoQuestion):
                    book.watch(None)
            self.assertEqual((book.table[("A", 8, 8)], book.changes), (8, 6))

    def test_undone_beyond_the_beginning(self):
        for made in CLASSES:
            book = busy_book(made)
            with self.assertRaises(NothingDone):
                with book.trying():
                    while True:
                        book.undo()
            self.assertEqual(picture(book), picture(busy_book(made)))
            with self.assertRaises(Left):
                with book.trying():
                    book.undo()
                    book.undo()
                    book.put("C", 0, 0, 1)
                    book.put("C", 0, 0, 2)
                    raise Left
            self.check_all_changes(book, busy_book(made))

    def check_all_changes(self, book, other):
        """The two books are the same, also when all changes are taken back."""
        self.assertEqual(picture(book), picture(other))
        while other.changes:
            book.undo()
            other.undo()
            self.assertEqual(picture(book), picture(other))
        check_refused(self, NothingDone, book.undo)

    def test_as_it_was_when_the_block_began(self):
        for made in CLASSES:
            book = made(PAIRS)
            trying = book.trying()
            book.put("A", 5, 5, 1)
            with self.assertRaises(Left):
                with trying:
                    book.put("A", 6, 6, 1)
                    raise Left
            self.assertEqual((book.table, book.changes), (PAIRS + Table(("A", 5, 5, 1)), 1))

    def test_nothing_happens_without_a_block(self):
        for made in CLASSES:
            book = busy_book(made)
            book.trying()
            self.assertEqual(picture(book), picture(busy_book(made)))

    def test_blocks_in_blocks(self):
        for made in CLASSES:
            book = made(PAIRS)
            with self.assertRaises(Left):
                with book.trying():
                    book.put("A", 5, 5, 1)
                    with self.assertRaises(Left):
                        with book.trying():
                            book.put("A", 6, 6, 1)
                            raise Left
                    self.assertEqual((book.table, book.changes), (PAIRS + Table(("A", 5, 5, 1)), 1))
                    with book.trying():
                        book.put("A", 7, 7, 1)
                    self.assertEqual((len(book), book.changes), (5, 2))
                    raise Left
            self.check_all_changes(book, made(PAIRS))

    def test_the_book_goes_on_behind_the_block(self):
        for made in CLASSES:
            book = busy_book(made)
            with self.assertRaises(Left):
                self.leave(book, Left())
            with self.assertRaises(Left):
                self.leave(book, Left())
            book.put("A", 6, 6, 1)
            other = busy_book(made)
            other.put("A", 6, 6, 1)
            self.check_all_changes(book, other)


class Shown(unittest.TestCase):
    def test_len_and_repr(self):
        for made in CLASSES:
            book = made(Table())
            for many in range(13):
                self.assertEqual(len(book), many)
                self.assertEqual(repr(book), f"{made.__name__}({many} rows)")
                if many < 12:
                    book.put("A", many, many, 1)


if __name__ == "__main__":
    unittest.main()
