"""Question: atoms, variables, hangs, len, ==, repr, text, read, +, |, turned (points 20, 21, 22)."""

import collections
import itertools
import operator
import re
import unittest

from countalike.errors import NoAtoms, NoQuestion, NoText, TooMuch
from countalike.questions import Question
from countalike.tables import Table
from tests.samples import any_values, check_refused, dice, no_integers, no_triples, picture, random_question

CHAIN = Question(("A", 0, 1), ("A", 1, 2))
TEXT = re.compile(r"[ABC][0-9][0-9]( [ABC][0-9][0-9]){0,3}")
FOUR = (("C", 9, 3), ("A", 3, 3), ("C", 9, 3), ("B", 0, 5))


def questions(many, variables=range(10)):
    """Many questions of 1 to 4 atoms."""
    return [random_question(dice(seed), 1 + seed % 4, list(variables)) for seed in range(many)]


def can_be_divided(atoms):
    """Whether two groups, each with an atom, have no variable in common: all divisions are tried."""
    for many in range(1, len(atoms)):
        for chosen in itertools.combinations(range(len(atoms)), many):
            inside = {variable for at in chosen for variable in atoms[at][1:]}
            outside = {variable for at in range(len(atoms)) if at not in chosen for variable in atoms[at][1:]}
            if not inside & outside:
                return True
    return False


class Atoms(unittest.TestCase):
    def test_as_given(self):
        for order in itertools.permutations(FOUR):
            question = Question(*order)
            self.assertEqual(picture(question.atoms), picture(order))
            self.assertEqual(picture(question.variables), picture((0, 3, 5, 9)))

    def test_one_to_four(self):
        for many in (1, 2, 3, 4):
            self.assertEqual(len(Question(*FOUR[:many])), many)
            self.assertEqual(Question(*FOUR[:many]).atoms, FOUR[:many])

    def test_none_and_five(self):
        check_refused(self, NoAtoms, Question)
        check_refused(self, NoAtoms, Question, *FOUR, ("A", 0, 0))
        check_refused(self, NoAtoms, Question, *[("A", 0, 0)] * 5)

    def test_same_atom_several_times(self):
        question = Question(*[("B", 4, 4)] * 4)
        self.assertEqual(len(question), 4)
        self.assertEqual(question.variables, (4,))

    def test_edges_of_variables(self):
        self.assertEqual(Question(("A", 0, 9)).variables, (0, 9))
        self.assertEqual(Question(("A", 9, 0)).variables, (0, 9))
        for atom in (("A", 10, 0), ("A", 0, 10), ("A", -1, 0), ("A", 0, -1)):
            check_refused(self, NoAtoms, Question, atom)

    def test_eight_variables(self):
        question = Question(("A", 9, 2), ("B", 8, 3), ("C", 7, 4), ("A", 6, 5))
        self.assertEqual(question.variables, (2, 3, 4, 5, 6, 7, 8, 9))

    def test_wrong_atoms_at_each_place(self):
        for wrong in no_triples(9) + [("A", 10, 0), ("A", 0, 10)]:
            check_refused(self, NoAtoms, Question, wrong)
            check_refused(self, NoAtoms, Question, wrong, *FOUR[:2])
            check_refused(self, NoAtoms, Question, FOUR[0], wrong, FOUR[1])
            check_refused(self, NoAtoms, Question, *FOUR[:3], wrong)

    def test_atoms_in_a_list_or_a_tuple(self):
        for wrong in (list(FOUR), FOUR, {atom: 1 for atom in FOUR}, []):
            check_refused(self, NoAtoms, Question, wrong)

    def test_no_bool_is_an_integer(self):
        for wrong in (("A", True, 0), ("A", 0, False), ("A", True, True)):
            check_refused(self, NoAtoms, Question, wrong)

    def test_properties_cannot_be_assigned(self):
        question = Question(*FOUR)
        for name in ("atoms", "variables", "hangs"):
            with self.assertRaises(AttributeError):
                setattr(question, name, ())
        self.assertEqual(question.atoms, FOUR)


class Hangs(unittest.TestCase):
    def test_ordinary(self):
        self.assertIs(CHAIN.hangs, True)
        self.assertIs(Question(("A", 0, 1), ("A", 2, 3)).hangs, False)
        self.assertIs(Question(("A", 0, 1)).hangs, True)
        self.assertIs(Question(("A", 3, 3)).hangs, True)
        self.assertIs(Question(("A", 3, 3), ("B", 3, 3)).hangs, True)
        self.assertIs(Question(("A", 3, 3), ("A", 4, 4)).hangs, False)
        self.assertIs(Question(("A", 0, 1), ("A", 0, 1)).hangs, True)

    def test_held_together_by_a_late_atom(self):
        atoms = (("A", 0, 1), ("A", 2, 3), ("A", 4, 5), ("A", 1, 2))
        self.assertIs(Question(*atoms).hangs, False)
        self.assertIs(Question(("A", 0, 1), ("A", 2, 3), ("B", 3, 1)).hangs, True)
        for order in itertools.permutations((("A", 0, 1), ("A", 1, 2), ("A", 3, 2), ("A", 3, 4))):
            self.assertIs(Question(*order).hangs, True)
        for order in itertools.permutations((("A", 0, 1), ("A", 1, 2), ("A", 0, 2), ("A", 3, 4))):
            self.assertIs(Question(*order).hangs, False)

    def test_all_divisions(self):
        for question in questions(400, range(6)) + questions(200):
            self.assertIs(question.hangs, not can_be_divided(question.atoms), question.text())


class Equality(unittest.TestCase):
    def test_order_does_not_matter(self):
        for order in itertools.permutations(FOUR):
            self.assertTrue(Question(*order) == Question(*FOUR))
            self.assertFalse(Question(*order) != Question(*FOUR))

    def test_each_as_often(self):
        first, second = ("A", 0, 1), ("B", 0, 1)
        self.assertFalse(Question(first, first, second) == Question(first, second, second))
        self.assertFalse(Question(first, first) == Question(first))
        self.assertTrue(Question(first, second, first) == Question(first, first, second))

    def test_other_atoms(self):
        for other in (("B", 0, 1), ("A", 1, 0), ("A", 0, 2), ("A", 2, 1)):
            self.assertFalse(Question(other) == Question(("A", 0, 1)))
            self.assertTrue(Question(other) != Question(("A", 0, 1)))

    def test_as_counters(self):
        some = questions(60, range(2))
        for one, other in itertools.product(some, some):
            self.assertIs(one == other, collections.Counter(one.atoms) == collections.Counter(other.atoms))

    def test_equal_to_nothing_else(self):
        for thing in any_values() + [Table(), CHAIN.atoms, list(CHAIN.atoms), CHAIN.text(), repr(CHAIN), 2]:
            self.assertIs(CHAIN == thing, False)
            self.assertIs(thing == CHAIN, False)
            self.assertIs(CHAIN != thing, True)

    def test_not_even_to_what_claims_it(self):
        class Claims:
            def __eq__(self, other):
                return True

        self.assertIs(CHAIN == Claims(), False)


class Shown(unittest.TestCase):
    def test_repr(self):
        self.assertEqual(repr(CHAIN), "Question(2 atoms, 3 variables)")
        self.assertEqual(repr(Question(("A", 4, 4))), "Question(1 atoms, 1 variables)")
        self.assertEqual(repr(Question(*FOUR)), "Question(4 atoms, 4 variables)")

    def test_text(self):
        self.assertEqual(CHAIN.text(), "A01 A12")
        self.assertEqual(Question(*FOUR).text(), "C93 A33 C93 B05")
        self.assertEqual(Question(("A", 4, 4)).text(), "A44")


class Read(unittest.TestCase):
    def test_there_and_back(self):
        for question in questions(100):
            text = question.text()
            self.assertTrue(TEXT.fullmatch(text))
            self.assertEqual(Question.read(text).atoms, question.atoms)
            self.assertEqual(Question.read(text).text(), text)

    def test_keeps_the_order(self):
        self.assertEqual(Question.read("B10 A99 B10").atoms, (("B", 1, 0), ("A", 9, 9), ("B", 1, 0)))

    def test_other_texts_return_or_are_refused(self):
        for text in ("A01", "A01 A12", "C93 A33 C93 B05"):
            for other in self.changed(text):
                if TEXT.fullmatch(other):
                    self.assertEqual(Question.read(other).text(), other)
                else:
                    check_refused(self, NoText, Question.read, other)

    def changed(self, text):
        for at in range(len(text) + 1):
            yield text[:at] + text[at + 1:]
            yield text[:at] + text[at:at + 2][::-1] + text[at + 2:]
            for sign in "ABCDa019 -+_.,\n\t":
                yield text[:at] + sign + text[at:]
                yield text[:at] + sign + text[at + 1:]
        words = text.split(" ")
        for at in range(len(words) + 1):
            for word in ("", "A", "A0", "A001", "A010", "A10", "A-1", "01A", "AA1", "a01", "D01", "word"):
                yield " ".join(words[:at] + [word] + words[at:])
                yield " ".join(words[:at] + [word] + words[at + 1:])

    def test_wrong_texts(self):
        wrong = [
            "", " ", "\n", "A", "A0", "A011", "A01 ", " A01", "A01  A12", "A01\n", "A01\nA12", "A01\tA12", "A01,A12",
            "A01A12", "A 0 1", "A 0 1 1\n", "a01", "D01", "01", "0A1", "A0B", "A+1", "A-1", "A001", "A010", "A0 1",
            "A01 A01 A01 A01 A01", "A00 " * 4, "A" + "0" * 900, "A0" + "1" * 5000, "A0\u0661", "A0\u00b2", "A\u06610",
            "Question(1 atoms, 2 variables)", "('A', 0, 1)",
        ]
        for text in wrong:
            check_refused(self, NoText, Question.read, text)

    def test_four_and_five_atoms(self):
        self.assertEqual(len(Question.read("A01 A01 A01 A01")), 4)
        check_refused(self, NoText, Question.read, "A01 A01 A01 A01 A01")

    def test_other_kinds_of_values(self):
        things = [thing for thing in any_values() + no_integers() if not isinstance(thing, str)]
        for thing in things + [["A01"], ("A01",), CHAIN, ("A", 0, 1)]:
            check_refused(self, NoText, Question.read, thing)


class Operators(unittest.TestCase):
    def test_sum(self):
        other = Question(("B", 3, 0), ("A", 1, 3))
        self.assertEqual((CHAIN + other).atoms, (("A", 0, 1), ("A", 1, 2), ("B", 6, 3), ("A", 4, 6)))
        self.assertEqual((other + CHAIN).atoms, (("B", 3, 0), ("A", 1, 3), ("A", 4, 5), ("A", 5, 6)))
        self.assertEqual((Question(("A", 0, 0)) + Question(("A", 0, 0))).atoms, (("A", 0, 0), ("A", 1, 1)))
        self.assertIs((CHAIN + other).hangs, False)

    def test_beside(self):
        other = Question(("B", 3, 0), ("A", 0, 1))
        self.assertEqual((CHAIN | other).atoms, (("A", 0, 1), ("A", 1, 2), ("B", 3, 0), ("A", 0, 1)))
        self.assertEqual((other | CHAIN).atoms, (("B", 3, 0), ("A", 0, 1), ("A", 0, 1), ("A", 1, 2)))

    def test_turned(self):
        self.assertEqual(CHAIN.turned().atoms, (("A", 1, 0), ("A", 2, 1)))
        self.assertEqual(Question(*FOUR).turned().atoms, (("C", 3, 9), ("A", 3, 3), ("C", 3, 9), ("B", 5, 0)))
        for question in questions(50):
            before = picture(question)
            self.assertEqual(question.turned().turned().atoms, question.atoms)
            self.assertEqual(picture(question), before)

    def test_variables_9_and_10(self):
        five = Question(("A", 4, 0))
        self.assertEqual((five + Question(("A", 0, 4))).atoms, (("A", 4, 0), ("A", 5, 9)))
        check_refused(self, TooMuch, operator.add, five, Question(("A", 5, 0)))
        check_refused(self, TooMuch, operator.add, five, Question(("A", 0, 5)))
        check_refused(self, TooMuch, operator.add, Question(("A", 9, 9)), Question(("A", 0, 0)))
        self.assertEqual((Question(("A", 9, 9)) | Question(("B", 9, 9))).atoms, (("A", 9, 9), ("B", 9, 9)))

    def test_four_and_five_atoms(self):
        three = Question(*[("A", 0, 0)] * 3)
        for sign in (operator.add, operator.or_):
            self.assertEqual(len(sign(three, Question(("A", 0, 0)))), 4)
            self.assertEqual(len(sign(CHAIN, CHAIN)), 4)
            check_refused(self, TooMuch, sign, three, CHAIN)
            check_refused(self, TooMuch, sign, CHAIN, three)
            check_refused(self, TooMuch, sign, Question(*FOUR), Question(("A", 0, 0)))

    def test_against_plain_atoms(self):
        refused = 0
        for one, other in itertools.product(questions(30, range(5)) + questions(10), repeat=2):
            step = max(one.variables) + 1
            for sign, more in ((operator.add, step), (operator.or_, 0)):
                atoms = one.atoms + tuple((kind, left + more, right + more) for kind, left, right in other.atoms)
                if len(atoms) > 4 or max(max(atom[1:]) for atom in atoms) > 9:
                    check_refused(self, TooMuch, sign, one, other)
                    refused += 1
                else:
                    self.assertEqual(picture(sign(one, other)), picture(Question(*atoms)))
        self.assertGreater(refused, 100)

    def test_other_kinds_of_values(self):
        full = Question(*[("A", 9, 9)] * 4)
        for question in (CHAIN, full):
            before = picture(question)
            for sign in (operator.add, operator.or_):
                for wrong in any_values() + [Table(), CHAIN.atoms, CHAIN.atoms[0], "A01", [CHAIN], (CHAIN,)]:
                    check_refused(self, NoQuestion, sign, question, wrong)
            self.assertEqual(picture(question), before)


if __name__ == "__main__":
    unittest.main()
