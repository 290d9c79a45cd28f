"""renamings, alike and shows_alike (points 2, 3, 40 and 41)."""

import inspect
import itertools
import unittest

from countalike.alike import alike, normal, renamings, shows_alike
from countalike.books import Book
from countalike.errors import NoQuestion
from countalike.questions import Question
from countalike.tables import Table
from tests.samples import (
    Within, any_values, check_refused, count_by_values, dice, no_integers, picture, random_question, random_table,
)
from tests.test_coverings import renamed_atoms

CHAIN = Question.read("A01 A12")
FORK = Question.read("A01 A02")
EDGES = Question.read("A01 A23 A45 A67")
EIGHT = Question.read("A91 A82 A73 A64")


def renamings_by_variables(one, other):
    """All renamings, by trying all orders of the variables."""
    if len(one.variables) != len(other.variables):
        return []
    goal = renamed_atoms(other, other.variables)
    tried = itertools.permutations(other.variables)
    return [variables for variables in tried if renamed_atoms(one, variables) == goal]


def telling_table(one, other):
    """The table of the verdict, found by the words of the document."""
    question = other if len(other.variables) > len(one.variables) else one
    keys = sorted(set(question.atoms))
    for numbers in itertools.product(range(5), repeat=len(keys)):
        table = Table(*[(*key, number) for key, number in zip(keys, numbers) if number])
        if count_by_values(one, table) != count_by_values(other, table):
            return table
    raise AssertionError("there is such a table")


def pairs(many, most_variables=4):
    """Pairs of questions, of which every second one has renamed variables, and some differ in one atom only."""
    for seed in range(many):
        die = dice(seed)
        kinds = "ABC"[:1 + seed % 3]
        one = random_question(die, die.randint(1, 4), die.sample(range(10), die.randint(1, most_variables)), kinds)
        new = dict(zip(one.variables, die.sample(range(10), len(one.variables))))
        atoms = [(kind, new[left], new[right]) for kind, left, right in one.atoms]
        if seed % 2:
            kind, left, right = atoms[0]
            atoms[0] = die.choice([(kind, right, left), (kind, left, die.choice(sorted(new.values()))), atoms[-1]])
        yield one, Question(*die.sample(atoms, len(atoms)))


class Renamings(unittest.TestCase):
    def check(self, one, other, expected):
        before = picture((one, other))
        found = list(renamings(one, other))
        self.assertEqual(picture(found), picture(expected), (one.text(), other.text()))
        self.assertEqual(list(renamings(one, other)), found)
        self.assertEqual(picture((one, other)), before)

    def test_ordinary(self):
        self.check(CHAIN, Question.read("A74 A45"), [(7, 4, 5)])
        self.check(CHAIN, FORK, [])
        self.check(FORK, FORK, [(0, 1, 2), (0, 2, 1)])
        self.check(Question.read("A01 A10"), Question.read("A52 A25"), [(2, 5), (5, 2)])
        self.check(Question.read("A44"), Question.read("A88"), [(8,)])

    def test_different_ones_for_different_variables(self):
        self.check(CHAIN, Question.read("A33 A33"), [])
        self.check(Question.read("A01"), Question.read("A99"), [])
        self.check(Question.read("A01 A23"), CHAIN, [])
        self.check(CHAIN, Question.read("A01 A23"), [])

    def test_each_as_often(self):
        self.check(Question.read("A01 A01 A12"), Question.read("A01 A12 A12"), [])
        self.check(Question.read("A01 A01 A23"), Question.read("A01 A23 A23"), [(2, 3, 0, 1)])
        self.check(Question.read("A01 A01"), Question.read("A01"), [])
        self.check(Question.read("A01"), Question.read("A01 A01"), [])

    def test_kinds_agree(self):
        self.check(Question.read("A01 B01"), Question.read("B34 A34"), [(3, 4)])
        self.check(Question.read("A01 B01"), Question.read("B34 A43"), [])
        self.check(Question.read("A01"), Question.read("C01"), [])

    def test_variables_with_gaps(self):
        self.check(Question.read("B95 A52"), Question.read("A17 B81"), [(7, 1, 8)])
        self.check(Question.read("A09"), Question.read("A90"), [(9, 0)])

    def test_repeated_atoms_give_no_repeated_renamings(self):
        self.check(Question(*[("A", 4, 7)] * 4), Question(*[("A", 2, 1)] * 4), [(2, 1)])
        self.check(Question.read("A01 A01 A02 A02"), Question.read("A01 A02 A01 A02"), [(0, 1, 2), (0, 2, 1)])

    def test_eight_variables(self):
        with Within(20):
            found = list(renamings(EDGES, EIGHT))
        edges = ((9, 1), (8, 2), (7, 3), (6, 4))
        expected = sorted(sum(order, ()) for order in itertools.permutations(edges))
        self.assertEqual(picture(found), picture(expected))

    def test_all_orders_of_the_variables(self):
        for one, other in pairs(400, 6):
            self.check(one, other, renamings_by_variables(one, other))


class Alike(unittest.TestCase):
    def check(self, one, other, expected):
        before = picture((one, other))
        found = alike(one, other)
        self.assertEqual(picture(found), picture(expected), (one.text(), other.text()))
        self.assertEqual(picture(alike(one, other)), picture(found))
        self.assertIs(shows_alike(one, other, found), True)
        self.assertEqual(picture((one, other)), before)

    def apart(self, one, other, text):
        self.check(Question.read(one), Question.read(other), ("apart", Table.read(text)))

    def test_the_first_renaming(self):
        self.check(CHAIN, Question.read("A74 A45"), ("alike", (7, 4, 5)))
        self.check(FORK, FORK, ("alike", (0, 1, 2)))
        self.check(Question.read("A01 A10"), Question.read("A52 A25"), ("alike", (2, 5)))
        self.check(EDGES, EIGHT, ("alike", (6, 4, 7, 3, 8, 2, 9, 1)))
        self.check(Question.read("C44"), Question.read("C00"), ("alike", (0,)))

    def test_equally_many_variables(self):
        self.apart("A01 A12", "A01 A02", "A 1 2 1\n")
        self.apart("A01 A02", "A01 A12", "A 0 2 1\n")
        self.apart("A56", "B56", "A 5 6 1\n")
        self.apart("B56", "A56", "B 5 6 1\n")

    def test_more_variables(self):
        self.apart("A33", "A21", "A 2 1 1\n")
        self.apart("A21", "A33", "A 2 1 1\n")
        self.apart("A77 A77", "A98 A97", "A 9 8 1\n")

    def test_different_atoms_only(self):
        self.apart("A01 A01", "A23", "A 0 1 2\n")
        self.apart("A23", "A01 A01", "A 2 3 2\n")
        self.apart("A01 A01 A01 A01", "A01 A01 A01", "A 0 1 2\n")

    def test_ascending_rows(self):
        self.apart("B01 A01", "B01 A10", "A 0 1 1\nB 0 1 1\n")
        self.apart("C98 A12 B45", "C98 A12 B12", "A 1 2 1\nB 4 5 1\nC 9 8 1\n")

    def test_numbers_above_one(self):
        self.apart("A01 A01 B23", "A01 B23 B23", "A 0 1 1\nB 2 3 2\n")

    def test_by_the_words(self):
        seen = {"alike": 0, "apart": 0}
        for one, other in pairs(500):
            found = renamings_by_variables(one, other)
            expected = ("alike", found[0]) if found else ("apart", telling_table(one, other))
            seen[expected[0]] += 1
            self.check(one, other, expected)
        self.assertGreater(min(seen.values()), 100)

    def test_small_questions(self):
        atoms = [(kind, left, right) for kind in "AB" for left in (0, 1) for right in (0, 1)]
        groups = [itertools.combinations_with_replacement(atoms, many) for many in (1, 2)]
        questions = [Question(*some) for group in groups for some in group]
        for one, other in itertools.product(questions, questions):
            found = renamings_by_variables(one, other)
            self.check(one, other, ("alike", found[0]) if found else ("apart", telling_table(one, other)))

    def test_eight_variables_apart(self):
        with Within(20):
            self.apart("A01 A23 A45 A67", "A01 A12 A34 A56", "A 6 7 1\n")
            found = alike(EDGES, Question.read("A01 A23 A45 B67"))
        self.assertEqual(found, ("apart", Table.read("A 6 7 1\n")))

    def test_alike_questions_count_the_same(self):
        for seed, (one, other) in enumerate(pairs(100)):
            if alike(one, other)[0] == "alike":
                for turn in range(3):
                    table = random_table(dice(seed * 10 + turn), 8, 2, 5)
                    self.assertEqual(one(table), other(table))

    def test_with_the_same_question_added(self):
        for seed, (one, other) in enumerate(pairs(200, 3)):
            if len(one) > 3 or max(one.variables + other.variables) > 6:
                continue
            more = random_question(dice(seed), 1, [0, 1])
            self.assertEqual(alike(one + more, other + more)[0], alike(one, other)[0])

    def test_both_directions(self):
        for one, other in pairs(100):
            self.assertEqual(alike(one, other)[0], alike(other, one)[0])
            self.assertEqual(alike(one, other)[0] == "alike", normal(one) == normal(other))


class ShowsAlike(unittest.TestCase):
    def check(self, one, other, thing, expected):
        before = picture((one, other, thing))
        self.assertIs(shows_alike(one, other, thing), expected, repr(thing)[:200])
        self.assertEqual(picture((one, other, thing)), before)

    def test_any_renaming(self):
        for one, other in pairs(60, 3):
            found = renamings_by_variables(one, other)
            for thing in itertools.product(range(10), repeat=len(one.variables)):
                self.check(one, other, ("alike", thing), thing in found)

    def test_a_covering_is_not_enough(self):
        self.check(CHAIN, Question.read("A33 A33"), ("alike", (3, 3, 3)), False)
        self.check(Question.read("A01 A23"), CHAIN, ("alike", (0, 1, 1, 2)), False)

    def test_any_table(self):
        seen = {True: 0, False: 0}
        for seed, (one, other) in enumerate(pairs(400)):
            table = random_table(dice(seed), seed % 13, 2, 10000, "ABC"[:1 + seed % 3])
            differ = count_by_values(one, table) != count_by_values(other, table)
            seen[differ] += 1
            self.check(one, other, ("apart", table), differ)
        self.assertGreater(min(seen.values()), 30)

    def test_tables_without_rows_and_with_twelve(self):
        twelve = Table(*[("A", at, at + 1, 10000) for at in range(12)])
        self.check(CHAIN, FORK, ("apart", Table()), False)
        self.check(CHAIN, FORK, ("apart", twelve), True)
        self.check(CHAIN, CHAIN, ("apart", twelve), False)
        with Within(20):
            self.check(EDGES, Question.read("A01 A23 A45 A56"), ("apart", twelve), True)

    def test_changed_verdicts(self):
        one, other, table = FORK, Question.read("A36 A38"), Table(("A", 1, 2, 1))
        self.check(one, other, ("alike", (3, 6, 8)), True)
        self.check(one, other, ("alike", (3, 8, 6)), True)
        wrong = [
            (3, 6, 8), ("alike",), ("alike", 3, 6, 8), ("alike", (3, 6, 8), table), ["alike", (3, 6, 8)],
            ("alike", [3, 6, 8]), ("apart", (3, 6, 8)), ("Alike", (3, 6, 8)), ("alike ", (3, 6, 8)), ("", (3, 6, 8)),
            ((3, 6, 8), "alike"), ("alike", ((3, 6, 8),)), ("alike", (3, 6)), ("alike", (3, 6, 8, 8)), ("alike", ()),
            ("alike", "368"), ("alike", ("3", "6", "8")), ("alike", None), ("alike", table), ("alike", other),
            ("alike", {0: 3, 1: 6, 2: 8}), (("alike", (3, 6, 8)),), {"alike": (3, 6, 8)}, "alike", ("alike", (8, 6, 3)),
            (("alike",), (3, 6, 8)), (["alike"], (3, 6, 8)), (True, (3, 6, 8)), (None, (3, 6, 8)), (0, (3, 6, 8)),
            ("alike", (3, 6, 10)), ("alike", (3, 6, -1)), ("alike", (3, (6, 8))), ("alike", (3,) * 8000),
        ]
        for thing in wrong:
            self.check(one, other, thing, False)

    def test_changed_verdicts_with_tables(self):
        table = Table(("A", 1, 2, 1))
        self.check(CHAIN, FORK, ("apart", table), True)
        wrong = [
            table, ("apart",), ["apart", table], ("apart", [table]), ("apart", (table,)), ("apart", table.rows),
            ("apart", table.text()), ("apart", Book(table)), ("alike", table), ("Apart", table), (table, "apart"),
            ("apart", table, table), ("apart", {"A": table}), ("apart", None), ("apart", CHAIN), ("apart", (0, 1, 2)),
            (("apart", table),), {"apart": table}, (False, table), (None, table), (table, table), (CHAIN, table),
        ]
        for thing in wrong:
            self.check(CHAIN, FORK, thing, False)

    def test_bools_are_no_variables(self):
        one, other = Question.read("A01"), Question.read("A10")
        self.check(one, other, ("alike", (1, 0)), True)
        for thing in ((True, 0), (1, False), (True, False)):
            self.check(one, other, ("alike", thing), False)
        self.check(Question.read("A00"), Question.read("A00"), ("alike", (False,)), False)

    def test_values_of_every_kind(self):
        one, other = Question.read("A44"), Question.read("A33")
        self.check(one, other, ("alike", (3,)), True)
        for thing in any_values() + [Table(("A", 0, 1, 1)), CHAIN, one, other, ()]:
            self.check(one, other, thing, False)
            self.check(one, other, ("alike", thing), False)
            self.check(one, other, ("apart", thing), False)
            self.check(one, other, (thing, (3,)), False)
            self.check(one, other, (thing, Table(("A", 1, 1, 1))), False)
        for part in no_integers():
            self.check(one, other, ("alike", (part,)), False)
            self.check(one, other, ("alike", (3, part)), False)


class Refused(unittest.TestCase):
    def first(self, one, other):
        return next(renamings(one, other), None)

    def wrong(self):
        return any_values() + [Table(), Table(("A", 0, 1, 1)), CHAIN.atoms, CHAIN.text(), [CHAIN], (CHAIN,)]

    def test_no_questions(self):
        for wrong in self.wrong():
            for call in (self.first, alike):
                check_refused(self, NoQuestion, call, wrong, CHAIN)
                check_refused(self, NoQuestion, call, CHAIN, wrong)
                check_refused(self, NoQuestion, call, wrong, wrong)
            for thing in (None, ("alike", (0, 1, 2)), ("apart", Table()), wrong):
                check_refused(self, NoQuestion, shows_alike, wrong, CHAIN, thing)
                check_refused(self, NoQuestion, shows_alike, CHAIN, wrong, thing)
                check_refused(self, NoQuestion, shows_alike, wrong, Book(Table()), thing)

    def test_a_generator_raises_when_first_iterated(self):
        for one, other in ((None, CHAIN), (CHAIN, None), (1, 1)):
            generator = renamings(one, other)
            self.assertTrue(inspect.isgenerator(generator))
            with self.assertRaises(NoQuestion):
                next(generator)


if __name__ == "__main__":
    unittest.main()
