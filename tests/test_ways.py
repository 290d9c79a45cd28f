"""ways(question, table) and question(table) (points 1, 3 and 30)."""

import inspect
import itertools
import unittest

from countalike.errors import NoQuestion, NoTable
from countalike.questions import Question, ways
from countalike.tables import Table
from tests.samples import (
    Within, any_values, check_refused, dice, picture, random_question, random_table, ways_by_values,
)

FRIENDS = Table(("A", 0, 1, 2), ("A", 1, 2, 1), ("A", 1, 1, 3))
CHAIN = Question(("A", 0, 1), ("A", 1, 2))


def ways_by_rows(question, table):
    """The ways with their weights, by trying all rows for all atoms."""
    found = []
    for rows in itertools.product(table.rows, repeat=len(question)):
        worth = {}
        weight = 1
        for atom, row in zip(question.atoms, rows):
            weight *= row[3] if atom[0] == row[0] else 0
            for variable, value in zip(atom[1:], row[1:3]):
                weight *= worth.setdefault(variable, value) == value
        if weight:
            found.append((tuple(worth[variable] for variable in question.variables), weight))
    return sorted(found)


class Ways(unittest.TestCase):
    def check(self, question, table, expected):
        before = picture((question, table))
        found = list(ways(question, table))
        self.assertEqual(picture(found), picture(expected))
        self.assertEqual(list(ways(question, table)), found)
        self.assertEqual(question(table), sum(weight for way, weight in expected))
        self.assertIs(type(question(table)), int)
        self.assertEqual(picture((question, table)), before)

    def test_session(self):
        self.assertEqual(CHAIN(FRIENDS), 20)
        self.check(CHAIN, FRIENDS, [((0, 1, 1), 6), ((0, 1, 2), 2), ((1, 1, 1), 9), ((1, 1, 2), 3)])

    def test_single_row(self):
        fork = Question(("A", 0, 1), ("A", 0, 2))
        self.assertEqual(fork(Table(("A", 1, 2, 1))), 1)
        self.assertEqual(CHAIN(Table(("A", 1, 2, 1))), 0)

    def test_values_in_the_order_of_the_variables(self):
        self.check(Question(("A", 7, 2), ("A", 2, 5)), Table(("A", 4, 8, 2), ("A", 8, 6, 3)), [((8, 6, 4), 6)])

    def test_repeated_atoms_count_each(self):
        table = Table(("A", 0, 1, 3), ("A", 1, 0, 5))
        self.check(Question(*[("A", 0, 1)] * 4), table, [((0, 1), 81), ((1, 0), 625)])

    def test_left_and_right_the_same(self):
        self.check(Question(("A", 4, 4)), FRIENDS, [((1,), 3)])
        self.check(Question(("A", 4, 4), ("A", 4, 2)), FRIENDS, [((1, 1), 9), ((2, 1), 3)])
        self.check(Question(("A", 2, 4), ("A", 4, 4)), FRIENDS, [((0, 1), 6), ((1, 1), 9)])

    def test_kinds_are_told_apart(self):
        table = Table(("A", 0, 1, 2), ("B", 0, 1, 5), ("B", 1, 0, 7))
        self.check(Question(("A", 0, 1), ("B", 1, 0)), table, [((0, 1), 14)])
        self.check(Question(("C", 0, 1)), table, [])

    def test_without_rows(self):
        for question in (CHAIN, Question(("C", 9, 9)), Question(*[("A", at, at + 1) for at in (0, 2, 4, 6)])):
            self.check(question, Table(), [])
            self.assertEqual(picture(question(Table())), picture(0))

    def test_ascending_by_numbers(self):
        table = Table(("A", 9, 0, 1), ("A", 10, 0, 1), ("A", 99, 0, 1))
        self.check(Question(("A", 0, 1)), table, [((9, 0), 1), ((10, 0), 1), ((99, 0), 1)])

    def test_all_values(self):
        for seed in range(300):
            die = dice(seed)
            table = random_table(die, die.randint(0, 12), die.randint(1, 3), 10000, "ABC"[:1 + seed % 3])
            variables = die.sample(range(10), die.randint(1, 4))
            question = random_question(die, die.randint(1, 4), variables, "ABC"[:1 + seed % 2])
            self.check(question, table, ways_by_values(question, table))

    def test_all_rows(self):
        for seed in range(40):
            die = dice(seed)
            table = random_table(die, 12, die.choice((3, 5, 99)), 10000, "ABC"[:1 + seed % 2])
            question = random_question(die, 1 + seed % 4, list(range(10)), "ABC"[:1 + seed % 2])
            self.check(question, table, ways_by_rows(question, table))

    def test_four_atoms_in_twelve_rows(self):
        table = Table(*[("A", at, 99 - at, 10000) for at in range(12)])
        question = Question(("A", 9, 1), ("A", 8, 2), ("A", 7, 3), ("A", 6, 4))
        with Within(60):
            found = list(ways(question, table))
            self.assertEqual(len(found), 12 ** 4)
            self.assertEqual(found, sorted(found))
            self.assertEqual(found[0], ((88, 88, 88, 88, 11, 11, 11, 11), 10 ** 16))
            self.assertEqual(question(table), 12 ** 4 * 10 ** 16)

    def test_long_chain_in_twelve_rows(self):
        table = Table(*[("B", 8 * at, 8 * at + 8, at + 1) for at in range(12)])
        question = Question(("B", 8, 6), ("B", 6, 4), ("B", 4, 2), ("B", 2, 0))
        with Within(60):
            expected = [
                (tuple(8 * (at + step) for step in (4, 3, 2, 1, 0)), (at + 1) * (at + 2) * (at + 3) * (at + 4))
                for at in range(9)
            ]
            self.check(question, table, expected)


class Laws(unittest.TestCase):
    """What follows from the points for counts."""

    def samples(self):
        for seed in range(100):
            die = dice(seed)
            tables = [random_table(die, die.randint(0, 3), 2, 5, "AB") for turn in range(2)]
            yield random_question(die, die.randint(1, 2), [0, 1, 2], "AB"), tables[0], tables[1], die

    def test_operators_of_questions(self):
        for question, table, other, die in self.samples():
            more = random_question(die, die.randint(1, 2), [0, 1, 3], "AB")
            self.assertEqual((question + more)(table), question(table) * more(table))
            turned = Table(*[(kind, right, left, often) for kind, left, right, often in table.rows])
            self.assertEqual(question.turned()(turned), question(table))

    def test_operators_of_tables(self):
        for question, table, other, die in self.samples():
            self.assertEqual(question(table * other), question(table) * question(other))
            self.assertEqual(question(table.scaled(7)), question(table) * 7 ** len(question))
            if question.hangs:
                self.assertEqual(question(table | other), question(table) + question(other))
            if len(question) == 1:
                self.assertEqual(question(table + other), question(table) + question(other))


class Refused(unittest.TestCase):
    def first(self, question, table):
        return next(ways(question, table))

    def test_a_generator(self):
        self.assertTrue(inspect.isgenerator(ways(CHAIN, FRIENDS)))
        self.assertTrue(inspect.isgeneratorfunction(ways))

    def test_raised_when_first_iterated(self):
        for arguments, error in (((None, FRIENDS), NoQuestion), ((CHAIN, None), NoTable), ((1, 1), NoQuestion)):
            generator = ways(*arguments)
            self.assertTrue(inspect.isgenerator(generator))
            with self.assertRaises(error):
                next(generator)

    def test_no_question(self):
        for wrong in any_values() + [FRIENDS, Table(), CHAIN.atoms, "A01 A12", [CHAIN]]:
            check_refused(self, NoQuestion, self.first, wrong, FRIENDS)
            check_refused(self, NoQuestion, self.first, wrong, wrong)
            check_refused(self, NoQuestion, self.first, wrong, None)

    def test_no_table(self):
        before = picture(CHAIN)
        for wrong in any_values() + [CHAIN, FRIENDS.rows, FRIENDS.text(), [FRIENDS], (FRIENDS,)]:
            check_refused(self, NoTable, self.first, CHAIN, wrong)
            check_refused(self, NoTable, CHAIN, wrong)
        self.assertEqual(picture(CHAIN), before)


if __name__ == "__main__":
    unittest.main()
