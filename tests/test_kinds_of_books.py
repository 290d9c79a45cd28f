"""Mirrored, Capped and CappedMirror (points 2, 3 and 61)."""

import itertools
import unittest

from countalike.books import Book, Capped, CappedMirror, Mirrored
from countalike.errors import NoKey, NoNumber, NoTable, NotMirrored, NothingDone, TooMuch, TooOften
from countalike.questions import Question
from countalike.tables import Table
from tests.samples import any_values, check_refused, no_integers, picture

CLASSES = (Book, Mirrored, Capped, CappedMirror)
MIRRORS = (Mirrored, CappedMirror)
CAPS = (Capped, CappedMirror)
PAIRS = Table(("A", 0, 1, 2), ("A", 1, 0, 2), ("A", 1, 1, 3))
TWELVE = Table(*[("A", at, at, 1) for at in range(12)])
SKEW = (
    Table(("A", 0, 1, 2)), Table(("A", 1, 0, 2)), Table(("A", 0, 1, 2), ("A", 1, 0, 3)),
    Table(("A", 0, 1, 2), ("B", 1, 0, 2)), PAIRS + Table(("A", 0, 1, 1)), PAIRS + Table(("C", 99, 98, 1)),
    Table(*TWELVE.rows[:11], ("A", 0, 99, 1)),
)
NO_NUMBERS = [0, -1, 10001, 10002, 10 ** 12]


def assign(book, table):
    book.table = table


def once(often, *keys):
    return Table(*[(*key, often) for key in keys])


class Classes(unittest.TestCase):
    def test_just_those_that_are_told(self):
        told = {
            Book: (Book,), Mirrored: (Book, Mirrored), Capped: (Book, Capped),
            CappedMirror: (Book, Mirrored, Capped, CappedMirror),
        }
        for made, other in itertools.product(CLASSES, CLASSES):
            for table in (Table(), PAIRS):
                self.assertIs(isinstance(made(table), other), other in told[made])
            self.assertIs(issubclass(made, other), other in told[made])

    def test_most_of_capped_books_only(self):
        for made in (Book, Mirrored):
            self.assertFalse(hasattr(made(PAIRS), "most"))
            with self.assertRaises(TypeError):
                made(PAIRS, 9)


class Mirror(unittest.TestCase):
    def test_mirrored_tables(self):
        for made in MIRRORS:
            for table in (Table(), PAIRS, TWELVE, Table(("B", 0, 99, 9), ("B", 99, 0, 9))):
                book = made(table)
                self.assertEqual(picture(book.table), picture(table))
                book.table = PAIRS
                assign(book, table)
                book.assign_table(table)
                self.assertEqual(picture((book.table, book.changes)), picture((table, 3)))

    def test_tables_that_are_not_mirrored(self):
        for made in MIRRORS:
            book = made(PAIRS)
            book.put("A", 4, 4, 1)
            before = picture(book)
            for table in SKEW:
                check_refused(self, NotMirrored, made, table)
                check_refused(self, NotMirrored, book.assign_table, table)
                check_refused(self, NotMirrored, assign, book, table)
            self.assertEqual(picture(book), before)
        for table in SKEW:
            self.assertEqual(Book(table).table, table)
            self.assertEqual(Capped(table).table, table)

    def test_put_does_both_as_one_change(self):
        for made in MIRRORS:
            for put in (made.put, made.__call__):
                book = made(PAIRS)
                put(book, "B", 7, 3, 5)
                self.assertEqual(picture(book.table), picture(PAIRS + once(5, ("B", 7, 3), ("B", 3, 7))))
                self.assertEqual(book.changes, 1)
                book.undo()
                self.assertEqual((book.table, book.changes), (PAIRS, 0))
                check_refused(self, NothingDone, book.undo)

    def test_put_where_rows_are(self):
        for made in MIRRORS:
            book = made(PAIRS)
            book.put("A", 1, 0, 7)
            self.assertEqual(book.table, Table(("A", 0, 1, 7), ("A", 1, 0, 7), ("A", 1, 1, 3)))
            book.put("A", 0, 1, 0)
            self.assertEqual(book.table, Table(("A", 1, 1, 3)))
            book.put("A", 0, 1, 0)
            self.assertEqual((book.table, book.changes), (Table(("A", 1, 1, 3)), 3))

    def test_put_with_the_same_value_twice(self):
        for made in MIRRORS:
            book = made(PAIRS)
            book.put("A", 1, 1, 9)
            book.put("C", 99, 99, 1)
            self.assertEqual(book.table, Table(("A", 0, 1, 2), ("A", 1, 0, 2), ("A", 1, 1, 9), ("C", 99, 99, 1)))
            book.put("A", 1, 1, 0)
            self.assertEqual((len(book), book.changes), (3, 3))

    def test_other_books_put_one_row(self):
        for made in (Book, Capped):
            book = made(PAIRS)
            book.put("A", 0, 1, 1)
            book("A", 5, 6, 1)
            self.assertEqual(
                book.table, Table(("A", 0, 1, 1), ("A", 1, 0, 2), ("A", 1, 1, 3), ("A", 5, 6, 1)),
            )

    def test_rows_for_both(self):
        for made in MIRRORS:
            book = made(Table(*TWELVE.rows[:10]))
            book.put("B", 0, 1, 1)
            self.assertEqual((len(book), book.changes), (12, 1))
            book.put("B", 1, 0, 2)
            self.assertEqual((len(book), book.changes), (12, 2))
            for many in (11, 12):
                book = made(Table(*TWELVE.rows[:many]))
                before = picture(book)
                check_refused(self, TooMuch, book.put, "B", 0, 1, 1)
                check_refused(self, TooMuch, book, "B", 1, 0, 1)
                self.assertEqual(picture(book), before)
                book.put("B", 0, 1, 0)
                self.assertEqual((len(book), book.changes), (many, 1))

    def test_no_table_before_not_mirrored(self):
        book = Mirrored(PAIRS)
        for wrong in any_values() + [Question.read("A01"), SKEW[0].rows, (SKEW[0],), Book(SKEW[0])]:
            check_refused(self, NoTable, Mirrored, wrong)
            check_refused(self, NoTable, book.assign_table, wrong)
            check_refused(self, NoTable, assign, book, wrong)
        self.assertEqual(picture(book), picture(Mirrored(PAIRS)))


class Cap(unittest.TestCase):
    def test_most(self):
        for made in CAPS:
            self.assertEqual(picture(made(PAIRS).most), picture(9))
            for most in (3, 4, 9, 10, 9999, 10000):
                self.assertEqual(picture(made(PAIRS, most).most), picture(most))
                self.assertEqual(picture(made(PAIRS, most=most).most), picture(most))
            self.assertEqual(made(Table(), 1).most, 1)

    def test_most_stays(self):
        for made in CAPS:
            book = made(PAIRS, 5)
            with self.assertRaises(AttributeError):
                book.most = 6
            book.put("A", 1, 1, 5)
            book.undo()
            self.assertEqual(picture(book.most), picture(5))

    def test_no_most(self):
        for made in CAPS:
            for wrong in no_integers() + NO_NUMBERS:
                check_refused(self, NoNumber, made, PAIRS, wrong)
                check_refused(self, NoNumber, made, Table(), wrong)
                check_refused(self, NoNumber, made, Table(("A", 0, 1, 10000)), wrong)

    def test_tables_up_to_most(self):
        for made, most in itertools.product(CAPS, (1, 2, 9, 9999, 10000)):
            table = once(most, ("A", 0, 1), ("A", 1, 0), ("B", 2, 2))
            book = made(table, most)
            self.assertEqual(picture(book.table), picture(table))
            book.table = Table(("A", 0, 0, most))
            book.assign_table(table)
            self.assertEqual(picture((book.table, book.changes)), picture((table, 2)))

    def test_tables_beyond_most(self):
        for made, most in itertools.product(CAPS, (1, 2, 9, 9999)):
            book = made(Table(("A", 0, 0, most)), most)
            book.put("A", 1, 1, 1)
            before = picture(book)
            for often in (most + 1, 10000):
                for table in (Table(("A", 0, 0, often)), Table(("A", 0, 0, 1), ("C", 5, 5, often))):
                    check_refused(self, TooOften, made, table, most)
                    check_refused(self, TooOften, book.assign_table, table)
                    check_refused(self, TooOften, assign, book, table)
            self.assertEqual(picture(book), before)

    def test_the_default_is_nine(self):
        for made in CAPS:
            self.assertEqual(made(Table(("A", 0, 0, 9))).table, Table(("A", 0, 0, 9)))
            check_refused(self, TooOften, made, Table(("A", 0, 0, 10)))

    def test_put_up_to_most(self):
        for made, most in itertools.product(CAPS, (1, 9, 10000)):
            for put in (made.put, made.__call__):
                book = made(Table(), most)
                for often in (0, 1, most, 0):
                    put(book, "A", 0, 0, often)
                    self.assertEqual(book.table[("A", 0, 0)], often)
                self.assertEqual(book.changes, 4)

    def test_put_beyond_most(self):
        for made, most in itertools.product(CAPS, (1, 9, 9999)):
            book = made(Table(("A", 0, 0, 1)), most)
            before = picture(book)
            for often in (most + 1, 10000):
                for key in (("A", 0, 0), ("A", 1, 1), ("B", 0, 99)):
                    check_refused(self, TooOften, book.put, *key, often)
                    check_refused(self, TooOften, book, *key, often)
            self.assertEqual(picture(book), before)
            check_refused(self, NothingDone, book.undo)

    def test_other_books_have_no_most(self):
        for made in (Book, Mirrored):
            book = made(Table(("A", 0, 0, 10000)))
            book.put("A", 1, 1, 10000)
            self.assertEqual(book.table, once(10000, ("A", 0, 0), ("A", 1, 1)))


class Order(unittest.TestCase):
    """Which of several exceptions is raised."""

    def test_of_put(self):
        for made in CAPS:
            book = made(TWELVE)
            before = picture(book)
            for put in (book.put, book):
                check_refused(self, NoKey, put, "D", 0, 1, 10001)
                check_refused(self, NoKey, put, "A", True, 1, 10)
                check_refused(self, NoKey, put, "A", 0, 100, None)
                check_refused(self, NoNumber, put, "B", 0, 1, 10001)
                check_refused(self, NoNumber, put, "B", 0, 1, True)
                check_refused(self, TooOften, put, "B", 0, 1, 10000)
                check_refused(self, TooOften, put, "B", 0, 1, 10)
                check_refused(self, TooMuch, put, "B", 0, 1, 9)
                check_refused(self, TooMuch, put, "B", 0, 1, 1)
            self.assertEqual(picture(book), before)

    def test_no_number_before_too_often_also_at_the_greatest_most(self):
        for made in CAPS:
            check_refused(self, NoNumber, made(Table(), 10000).put, "A", 0, 0, 10001)

    def test_of_new_books(self):
        often = Table(("A", 0, 1, 10))
        for made in CAPS:
            for most in (0, True, None, 9):
                for wrong in (None, True, often.rows, [often], Question.read("A01")):
                    check_refused(self, NoTable, made, wrong, most)
            check_refused(self, NoNumber, made, often, 0)
            check_refused(self, NoNumber, made, often, True)
            check_refused(self, TooOften, made, often)
            check_refused(self, TooOften, made, often, 1)
        check_refused(self, NoNumber, CappedMirror, SKEW[0], "9")
        check_refused(self, NotMirrored, CappedMirror, often, 10)
        check_refused(self, NotMirrored, CappedMirror, Table(("A", 0, 1, 9)))

    def test_of_assignments(self):
        book = CappedMirror(PAIRS)
        before = picture(book)
        for change in (book.assign_table, lambda table: assign(book, table)):
            check_refused(self, NoTable, change, None)
            check_refused(self, TooOften, change, Table(("A", 0, 1, 10)))
            check_refused(self, TooOften, change, Table(("A", 0, 1, 1), ("B", 1, 1, 10)))
            check_refused(self, NotMirrored, change, Table(("A", 0, 1, 9)))
        self.assertEqual(picture(book), before)

    def test_no_table(self):
        for made in CAPS:
            book = made(PAIRS)
            for wrong in any_values() + [Question.read("A01"), SKEW[0].rows, (SKEW[0],), Book(SKEW[0])]:
                check_refused(self, NoTable, made, wrong)
                check_refused(self, NoTable, made, wrong, wrong)
                check_refused(self, NoTable, book.assign_table, wrong)
                check_refused(self, NoTable, assign, book, wrong)
            self.assertEqual(picture(book), picture(made(PAIRS)))


if __name__ == "__main__":
    unittest.main()
