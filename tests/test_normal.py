"""normal (points 2, 3 and 42)."""

import itertools
import unittest

from countalike.alike import alike, normal
from countalike.errors import NoQuestion
from countalike.questions import Question
from countalike.tables import Table
from tests.samples import Within, any_values, check_refused, dice, picture, random_question

CHAIN = Question.read("A01 A12")


def numbered(atoms):
    """The atoms with their variables numbered as they come."""
    come = []
    for atom in atoms:
        come += [variable for variable in atom[1:] if variable not in come]
        come = list(dict.fromkeys(come))
    return tuple((kind, come.index(left), come.index(right)) for kind, left, right in atoms)


def questions(many):
    for seed in range(many):
        die = dice(seed)
        variables = die.sample(range(10), die.randint(1, 8))
        yield random_question(die, 1 + seed % 4, variables, "ABC"[:1 + seed % 3])


class Normal(unittest.TestCase):
    def check(self, text, expected):
        question = Question.read(text)
        before = picture(question)
        found = normal(question)
        self.assertIsInstance(found, Question)
        self.assertEqual(found.text(), expected)
        self.assertEqual(normal(question).text(), expected)
        self.assertEqual(picture(question), before)

    def test_ordinary(self):
        self.check("A53 A33", "A00 A10")
        self.check("A33 A53", "A00 A10")
        self.check("A01 A12", "A01 A12")
        self.check("A74 A45", "A01 A12")
        self.check("A45 A74", "A01 A12")
        self.check("A10 A20", "A01 A21")

    def test_one_atom(self):
        self.check("A99", "A00")
        self.check("C95", "C01")
        self.check("B59", "B01")
        self.check("A00", "A00")

    def test_repeated_atoms(self):
        self.check("A57 A57 A57 A57", "A01 A01 A01 A01")
        self.check("A99 A99", "A00 A00")
        self.check("A12 A23 A12", "A01 A01 A12")

    def test_kinds_first(self):
        self.check("C01 B01 A01", "A01 B01 C01")
        self.check("B00 A12", "A01 B22")

    def test_numbered_again_in_each_order(self):
        self.check("A12 A01", "A01 A12")
        self.check("A02 A12 A20", "A01 A10 A20")
        self.check("B31 A44", "A00 B12")

    def test_eight_variables(self):
        with Within(20):
            self.check("A98 A76 A54 A32", "A01 A23 A45 A67")

    def test_all_orders(self):
        for question in questions(400):
            expected = min(numbered(order) for order in itertools.permutations(question.atoms))
            self.assertEqual(picture(normal(question).atoms), picture(expected), question.text())

    def test_of_a_normal_form_it_is_the_same(self):
        for question in questions(100):
            self.assertEqual(normal(normal(question)).atoms, normal(question).atoms)
            self.assertEqual(alike(question, normal(question))[0], "alike")

    def test_equal_just_for_alike_questions(self):
        atoms = [("A", left, right) for left in range(3) for right in range(3)]
        some = [Question(*pair) for pair in itertools.product(atoms, repeat=2)]
        for one, other in itertools.product(some[::2], some):
            self.assertEqual(normal(one) == normal(other), alike(one, other)[0] == "alike")

    def test_no_question(self):
        for wrong in any_values() + [Table(), Table(("A", 0, 1, 1)), CHAIN.atoms, "A01 A12", [CHAIN], (CHAIN,)]:
            check_refused(self, NoQuestion, normal, wrong)


if __name__ == "__main__":
    unittest.main()
