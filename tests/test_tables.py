"""Table: rows, len, keys, ==, repr (point 10)."""

import itertools
import unittest

from countalike.errors import NoKey, NoRows
from countalike.questions import Question
from countalike.tables import Table
from tests.samples import any_values, check_refused, dice, no_integers, no_triples, picture, random_table

FRIENDS = (("A", 0, 1, 2), ("A", 1, 1, 3), ("A", 1, 2, 1))
TWELVE = tuple(("ABC"[at % 3], at, 99 - at, at + 1) for at in range(12))


def no_rows():
    """Values that are no rows."""
    wrong = [(*thing, 1) for thing in no_triples(99) if isinstance(thing, tuple) and len(thing) == 3]
    wrong += any_values() + [Table(), Question(("A", 0, 1)), ("A", 0, 1), ("A", 0, 1, 1, 1), ["A", 0, 1, 1]]
    wrong += [(["A", 0, 1], 1), (("A", 0, 1), 1), (("A", 0, 1, 1),), [("A", 0, 1, 1)], "A 0 1 1\n", "A011"]
    wrong += [("A", 0, 1, often) for often in no_integers() + [0, -1, 10001, 10002, 10 ** 12, -(10 ** 12)]]
    wrong += [(0, "A", 1, 1), (0, 1, "A", 1), (0, 1, 1, "A"), {"A": (0, 1, 1)}]
    return wrong


class Rows(unittest.TestCase):
    def test_ascending_in_any_order(self):
        for order in itertools.permutations(FRIENDS):
            self.assertEqual(Table(*order).rows, FRIENDS)

    def test_ascending_by_numbers_not_by_signs(self):
        table = Table(("B", 0, 0, 1), ("A", 10, 0, 1), ("A", 9, 10, 1), ("A", 9, 2, 1))
        self.assertEqual(table.rows, (("A", 9, 2, 1), ("A", 9, 10, 1), ("A", 10, 0, 1), ("B", 0, 0, 1)))

    def test_kinds_of_values(self):
        self.assertEqual(picture(Table(*FRIENDS[::-1]).rows), picture(FRIENDS))
        self.assertEqual(picture(Table().rows), picture(()))

    def test_zero_to_twelve_rows(self):
        for many in range(13):
            table = Table(*TWELVE[:many])
            self.assertEqual(len(table), many)
            self.assertEqual(table.rows, tuple(sorted(TWELVE[:many])))

    def test_thirteen_rows(self):
        check_refused(self, NoRows, Table, *TWELVE, ("C", 50, 50, 1))
        check_refused(self, NoRows, Table, *TWELVE, *FRIENDS)

    def test_edges_of_values_and_numbers(self):
        for value in (0, 1, 98, 99):
            self.assertEqual(Table(("C", value, 0, 1)).rows, (("C", value, 0, 1),))
            self.assertEqual(Table(("C", 0, value, 1)).rows, (("C", 0, value, 1),))
        for often in (1, 2, 9999, 10000):
            self.assertEqual(Table(("B", 3, 3, often)).rows, (("B", 3, 3, often),))
        for value in (-1, 100):
            check_refused(self, NoRows, Table, ("A", value, 0, 1))
            check_refused(self, NoRows, Table, ("A", 0, value, 1))
        for often in (0, 10001):
            check_refused(self, NoRows, Table, ("A", 0, 0, often))

    def test_same_kind_left_and_right_twice(self):
        check_refused(self, NoRows, Table, ("A", 0, 1, 2), ("A", 0, 1, 2))
        check_refused(self, NoRows, Table, ("A", 0, 1, 2), ("A", 0, 1, 3))
        check_refused(self, NoRows, Table, ("A", 0, 1, 2), ("B", 0, 1, 2), ("A", 0, 1, 1))
        self.assertEqual(len(Table(("A", 0, 1, 2), ("B", 0, 1, 2), ("A", 1, 0, 2), ("A", 0, 0, 2))), 4)

    def test_wrong_rows_at_each_place(self):
        right = (("A", 5, 5, 1), ("B", 0, 7, 1))
        for wrong in no_rows():
            check_refused(self, NoRows, Table, wrong)
            check_refused(self, NoRows, Table, wrong, *right)
            check_refused(self, NoRows, Table, right[0], wrong, right[1])
            check_refused(self, NoRows, Table, *right, wrong)

    def test_rows_in_a_list_or_a_tuple(self):
        for wrong in (list(FRIENDS), FRIENDS, {row: 1 for row in FRIENDS}, []):
            check_refused(self, NoRows, Table, wrong)

    def test_nothing_is_modified(self):
        rows = [("B", 1, 0, 1), ("A", 1, 0, 1)]
        table = Table(*rows)
        self.assertEqual(rows, [("B", 1, 0, 1), ("A", 1, 0, 1)])
        rows.append(("C", 0, 0, 1))
        self.assertEqual(len(table), 2)

    def test_rows_cannot_be_assigned(self):
        table = Table(*FRIENDS)
        with self.assertRaises(AttributeError):
            table.rows = ()
        self.assertEqual(table.rows, FRIENDS)


class Keys(unittest.TestCase):
    def test_how_often(self):
        table = Table(*FRIENDS)
        for kind, left, right, often in FRIENDS:
            self.assertEqual(picture(table[(kind, left, right)]), picture(often))
            self.assertEqual(table[kind, left, right], often)

    def test_not_there(self):
        table = Table(*FRIENDS)
        for key in (("B", 0, 1), ("A", 1, 0), ("A", 0, 0), ("A", 99, 99), ("C", 0, 99)):
            self.assertEqual(picture(table[key]), picture(0))
            self.assertEqual(picture(Table()[key]), picture(0))

    def test_all_keys_of_random_tables(self):
        for seed in range(20):
            table = random_table(dice(seed), seed % 13, 4)
            often = {row[:3]: row[3] for row in table.rows}
            for key in itertools.product("ABC", range(6), range(6)):
                self.assertEqual(table[key], often.get(key, 0))

    def test_wrong_keys(self):
        table = Table(*FRIENDS)
        for wrong in no_triples(99) + [("A", 100, 0), ("A", 0, 100), slice(0, 1)]:
            check_refused(self, NoKey, lambda key: table[key], wrong)
            check_refused(self, NoKey, lambda key: Table()[key], wrong)
            self.assertEqual(table.rows, FRIENDS)

    def test_no_bool_is_an_integer(self):
        table = Table(("A", 1, 0, 1))
        for wrong in (("A", True, 0), ("A", 1, False), ("A", True, False)):
            check_refused(self, NoKey, lambda key: table[key], wrong)
            check_refused(self, NoRows, Table, (*wrong, 1))
        check_refused(self, NoRows, Table, ("A", 1, 0, True))


class Equality(unittest.TestCase):
    def test_same_rows(self):
        for order in itertools.permutations(FRIENDS):
            self.assertTrue(Table(*order) == Table(*FRIENDS))
            self.assertFalse(Table(*order) != Table(*FRIENDS))
        self.assertTrue(Table() == Table())

    def test_other_rows(self):
        table = Table(*FRIENDS)
        others = [
            Table(), Table(*FRIENDS[1:]), Table(*FRIENDS, ("B", 0, 1, 2)), Table(("A", 0, 1, 3), *FRIENDS[1:]),
            Table(("B", 0, 1, 2), *FRIENDS[1:]), Table(("A", 0, 3, 2), *FRIENDS[1:]),
            Table(("A", 3, 1, 2), *FRIENDS[1:]),
        ]
        for other in others:
            self.assertFalse(table == other)
            self.assertTrue(table != other)

    def test_equal_to_nothing_else(self):
        things = any_values() + [Question(("A", 0, 1)), FRIENDS, list(FRIENDS), Table(*FRIENDS).text(), 3]
        for table in (Table(*FRIENDS), Table()):
            for thing in things + [table.rows, table.text(), repr(table)]:
                self.assertIs(table == thing, False)
                self.assertIs(thing == table, False)
                self.assertIs(table != thing, True)

    def test_not_even_to_what_claims_it(self):
        class Claims:
            def __eq__(self, other):
                return True

        self.assertIs(Table() == Claims(), False)


class Shown(unittest.TestCase):
    def test_repr(self):
        self.assertEqual(repr(Table()), "Table(0 rows)")
        self.assertEqual(repr(Table(*FRIENDS[:1])), "Table(1 rows)")
        self.assertEqual(repr(Table(*FRIENDS)), "Table(3 rows)")
        self.assertEqual(repr(Table(*TWELVE)), "Table(12 rows)")

    def test_not_iterated(self):
        with self.assertRaises(TypeError):
            list(Table(*FRIENDS))


if __name__ == "__main__":
    unittest.main()
