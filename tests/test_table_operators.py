"""Table: one + other, one | other, one * other, scaled(k) (point 12)."""

import collections
import operator
import unittest

from countalike.errors import NoNumber, NoTable, TooMuch
from countalike.questions import Question
from countalike.tables import Table
from tests.samples import any_values, check_refused, dice, no_integers, picture, random_table

OPERATORS = (operator.add, operator.or_, operator.mul)
FRIENDS = Table(("A", 0, 1, 2), ("A", 1, 2, 1), ("B", 1, 1, 3))


def table_or_none(numbers):
    """The table of a dict of keys and numbers, None if it is beyond the limits."""
    values = [value for key in numbers for value in key[1:]]
    if len(numbers) > 12 or max(values, default=0) > 99 or max(numbers.values(), default=1) > 10000:
        return None
    return Table(*[(*key, often) for key, often in numbers.items()])


def expected_sum(one, other):
    numbers = collections.Counter()
    for kind, left, right, often in one.rows + other.rows:
        numbers[kind, left, right] += often
    return table_or_none(numbers)


def expected_beside(one, other):
    step = max([value for row in one.rows for value in row[1:3]], default=-1) + 1
    numbers = {row[:3]: row[3] for row in one.rows}
    for kind, left, right, often in other.rows:
        numbers[kind, left + step, right + step] = often
    return table_or_none(numbers)


def expected_product(one, other):
    if any(value > 9 for row in one.rows + other.rows for value in row[1:3]):
        return None
    numbers = {}
    for kind, left, right, often in one.rows:
        for key in [row for row in other.rows if row[0] == kind]:
            numbers[kind, 10 * left + key[1], 10 * right + key[2]] = often * key[3]
    return table_or_none(numbers)


def rows_in_line(many, kind="A", often=1, start=0):
    return Table(*[(kind, at, start, often) for at in range(start, start + many)])


class Against(unittest.TestCase):
    def check(self, sign, expected, one, other):
        table = expected(one, other)
        if table is None:
            check_refused(self, TooMuch, sign, one, other)
        else:
            before = picture((one, other))
            result = sign(one, other)
            self.assertIs(type(result), Table)
            self.assertEqual(picture(result), picture(table))
            self.assertEqual(picture((one, other)), before)
        return table is None

    def check_many(self, sign, expected):
        refused = 0
        for seed in range(400):
            die = dice(seed)
            greatest = die.choice((1, 2, 9, 10, 49, 60, 99))
            one = random_table(die, die.randint(0, 12), greatest, die.choice((1, 10, 100, 5000, 10000)))
            lower = die.choice((1, 2, 9, greatest))
            other = random_table(die, die.randint(0, 12), lower, die.choice((1, 10, 100, 5001)))
            refused += self.check(sign, expected, one, other)
        self.assertTrue(40 < refused < 360, refused)

    def test_sums(self):
        self.check_many(operator.add, expected_sum)

    def test_beside(self):
        self.check_many(operator.or_, expected_beside)

    def test_products(self):
        self.check_many(operator.mul, expected_product)


class Sum(unittest.TestCase):
    def test_both_together(self):
        other = Table(("A", 0, 1, 5), ("B", 0, 1, 1), ("C", 99, 0, 4))
        rows = (("A", 0, 1, 7), ("A", 1, 2, 1), ("B", 0, 1, 1), ("B", 1, 1, 3), ("C", 99, 0, 4))
        self.assertEqual((FRIENDS + other).rows, rows)
        self.assertEqual((other + FRIENDS).rows, rows)
        self.assertEqual(FRIENDS + FRIENDS, FRIENDS.scaled(2))

    def test_without_rows(self):
        self.assertEqual(FRIENDS + Table(), FRIENDS)
        self.assertEqual(Table() + FRIENDS, FRIENDS)
        self.assertEqual(Table() + Table(), Table())

    def test_twelve_and_thirteen_rows(self):
        self.assertEqual(len(rows_in_line(7) + rows_in_line(5, "B")), 12)
        self.assertEqual(len(rows_in_line(12) + rows_in_line(12)), 12)
        check_refused(self, TooMuch, operator.add, rows_in_line(7), rows_in_line(6, "B"))
        check_refused(self, TooMuch, operator.add, rows_in_line(12), Table(("C", 0, 0, 1)))

    def test_numbers(self):
        half = Table(("A", 0, 0, 5000))
        self.assertEqual((half + half).rows, (("A", 0, 0, 10000),))
        check_refused(self, TooMuch, operator.add, half, Table(("A", 0, 0, 5001)))
        check_refused(self, TooMuch, operator.add, Table(("A", 0, 0, 10000)), Table(("A", 0, 0, 1)))

    def test_in_place_makes_a_new_table(self):
        table = held = Table(("A", 0, 0, 1))
        table += held
        self.assertEqual(held.rows, (("A", 0, 0, 1),))
        self.assertEqual(table.rows, (("A", 0, 0, 2),))


class Beside(unittest.TestCase):
    def test_values_of_other_are_greater(self):
        other = Table(("A", 0, 1, 5), ("B", 4, 0, 1))
        rows = (("A", 0, 1, 2), ("A", 1, 2, 1), ("A", 3, 4, 5), ("B", 1, 1, 3), ("B", 7, 3, 1))
        self.assertEqual((FRIENDS | other).rows, rows)

    def test_greatest_value_on_the_left(self):
        self.assertEqual((Table(("A", 5, 0, 1)) | Table(("C", 0, 2, 1))).rows, (("A", 5, 0, 1), ("C", 6, 8, 1)))

    def test_same_table_twice(self):
        table = Table(("A", 0, 0, 3))
        self.assertEqual((table | table).rows, (("A", 0, 0, 3), ("A", 1, 1, 3)))

    def test_without_rows(self):
        self.assertEqual(Table() | FRIENDS, FRIENDS)
        self.assertEqual(FRIENDS | Table(), FRIENDS)
        self.assertEqual(Table() | Table(), Table())
        edge = Table(("A", 99, 99, 1))
        self.assertEqual(edge | Table(), edge)
        self.assertEqual(Table() | edge, edge)

    def test_values_99_and_100(self):
        self.assertEqual((Table(("A", 49, 0, 1)) | Table(("A", 0, 49, 1))).rows, (("A", 49, 0, 1), ("A", 50, 99, 1)))
        check_refused(self, TooMuch, operator.or_, Table(("A", 50, 0, 1)), Table(("A", 0, 49, 1)))
        check_refused(self, TooMuch, operator.or_, Table(("A", 0, 49, 1)), Table(("A", 50, 0, 1)))
        self.assertEqual((Table(("A", 0, 98, 1)) | Table(("A", 0, 0, 1))).rows, (("A", 0, 98, 1), ("A", 99, 99, 1)))
        check_refused(self, TooMuch, operator.or_, Table(("A", 0, 99, 1)), Table(("A", 0, 0, 1)))

    def test_twelve_and_thirteen_rows(self):
        self.assertEqual(len(rows_in_line(6) | rows_in_line(6)), 12)
        check_refused(self, TooMuch, operator.or_, rows_in_line(6), rows_in_line(7))

    def test_numbers_stay(self):
        table = Table(("A", 0, 0, 10000))
        self.assertEqual((table | table).rows, (("A", 0, 0, 10000), ("A", 1, 1, 10000)))


class Product(unittest.TestCase):
    def test_rows_of_the_same_kind(self):
        one = Table(("A", 1, 2, 2), ("A", 3, 0, 3), ("B", 4, 4, 5), ("C", 0, 0, 9))
        other = Table(("A", 5, 6, 7), ("A", 0, 9, 1), ("B", 7, 8, 10))
        rows = (("A", 10, 29, 2), ("A", 15, 26, 14), ("A", 30, 9, 3), ("A", 35, 6, 21), ("B", 47, 48, 50))
        self.assertEqual((one * other).rows, rows)

    def test_no_common_kind(self):
        self.assertEqual(Table(("A", 0, 0, 1)) * Table(("B", 0, 0, 1)), Table())

    def test_without_rows(self):
        self.assertEqual(FRIENDS * Table(), Table())
        self.assertEqual(Table() * FRIENDS, Table())
        self.assertEqual(Table() * Table(), Table())

    def test_values_9_and_10(self):
        nine = Table(("A", 9, 9, 1))
        self.assertEqual((nine * nine).rows, (("A", 99, 99, 1),))
        for ten in (Table(("A", 10, 0, 1)), Table(("A", 0, 10, 1)), Table(("B", 10, 10, 1)), Table(("C", 0, 99, 1))):
            for other in (nine, Table(), Table(("A", 0, 0, 1)), Table(("B", 0, 0, 1)), ten):
                check_refused(self, TooMuch, operator.mul, ten, other)
                check_refused(self, TooMuch, operator.mul, other, ten)

    def test_twelve_and_more_rows(self):
        self.assertEqual(len(rows_in_line(3) * rows_in_line(4)), 12)
        self.assertEqual(len((rows_in_line(2) + rows_in_line(2, "B")) * (rows_in_line(3) + rows_in_line(3, "B"))), 12)
        self.assertEqual(len(rows_in_line(6) * (rows_in_line(2) + rows_in_line(5, "B"))), 12)
        check_refused(self, TooMuch, operator.mul, rows_in_line(3), rows_in_line(5))
        one = rows_in_line(3) + rows_in_line(1, "B")
        check_refused(self, TooMuch, operator.mul, one, rows_in_line(4) + rows_in_line(1, "B"))

    def test_numbers(self):
        hundred = Table(("A", 0, 0, 100))
        self.assertEqual((hundred * hundred).rows, (("A", 0, 0, 10000),))
        check_refused(self, TooMuch, operator.mul, hundred, Table(("A", 0, 0, 101)))
        self.assertEqual(Table(("A", 0, 0, 10000)) * Table(("B", 0, 0, 10000)), Table())


class Scaled(unittest.TestCase):
    def test_each_row(self):
        self.assertEqual(FRIENDS.scaled(1), FRIENDS)
        self.assertEqual(FRIENDS.scaled(7).rows, (("A", 0, 1, 14), ("A", 1, 2, 7), ("B", 1, 1, 21)))
        self.assertEqual(FRIENDS.scaled(100).rows, (("A", 0, 1, 200), ("A", 1, 2, 100), ("B", 1, 1, 300)))
        self.assertEqual(Table().scaled(100), Table())

    def test_numbers(self):
        self.assertEqual(Table(("A", 0, 0, 100)).scaled(100).rows, (("A", 0, 0, 10000),))
        check_refused(self, TooMuch, Table(("A", 0, 0, 101)).scaled, 100)
        check_refused(self, TooMuch, Table(("A", 0, 0, 1), ("B", 0, 0, 5001)).scaled, 2)
        self.assertEqual(Table(("A", 0, 0, 10000)).scaled(1).rows, (("A", 0, 0, 10000),))

    def test_wrong_numbers(self):
        full = Table(("A", 0, 0, 10000))
        for table in (FRIENDS, Table(), full):
            before = picture(table)
            for wrong in no_integers() + [0, -1, 101, 102, 10 ** 12, -(10 ** 12)]:
                check_refused(self, NoNumber, table.scaled, wrong)
            self.assertEqual(picture(table), before)


class Refused(unittest.TestCase):
    def test_other_kinds_of_values(self):
        full = Table(*[("A", 99, at, 10000) for at in range(12)])
        for table in (FRIENDS, Table(), full):
            before = picture(table)
            things = any_values() + [Question(("A", 0, 1)), FRIENDS.rows, FRIENDS.text(), [FRIENDS], (FRIENDS,)]
            for sign in OPERATORS:
                for wrong in things:
                    check_refused(self, NoTable, sign, table, wrong)
            self.assertEqual(picture(table), before)


if __name__ == "__main__":
    unittest.main()
