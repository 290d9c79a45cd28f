"""coverings, covers and shows_covering (points 2, 3 and 50)."""

import collections
import inspect
import itertools
import unittest

from countalike.books import Book
from countalike.coverings import coverings, covers, shows_covering
from countalike.errors import NoQuestion
from countalike.questions import Question
from countalike.tables import Table
from tests.samples import (
    Within, any_values, check_refused, count_by_values, dice, no_integers, picture, random_question, random_table,
)

CHAIN = Question.read("A01 A12")
EDGES = Question.read("A01 A23 A45 A67")
EIGHT = Question.read("A91 A82 A73 A64")


def renamed_atoms(one, variables):
    """The atoms of one with these variables, and how often each of them is there."""
    new = dict(zip(one.variables, variables))
    return collections.Counter((kind, new[left], new[right]) for kind, left, right in one.atoms)


def coverings_by_variables(one, other):
    """All coverings, by trying all variables of other for all variables of one."""
    goal = collections.Counter(other.atoms)
    tried = itertools.product(other.variables, repeat=len(one.variables))
    return [variables for variables in tried if renamed_atoms(one, variables) == goal]


def pairs(many, most_variables=4, most_atoms=4):
    """Pairs of questions, of which the second one is often covered by the first one."""
    for seed in range(many):
        die = dice(seed)
        kinds = "ABC"[:1 + seed % 2]
        one = random_question(die, die.randint(1, most_atoms), die.sample(range(10), most_variables), kinds)
        if seed % 3:
            new = {variable: die.randint(0, 9 if seed % 3 == 1 else 2) for variable in one.variables}
            atoms = [(kind, new[left], new[right]) for kind, left, right in one.atoms]
            yield one, Question(*die.sample(atoms, len(atoms)))
        else:
            yield one, random_question(die, len(one), die.sample(range(10), 2), kinds)


class Coverings(unittest.TestCase):
    def check(self, one, other, expected):
        before = picture((one, other))
        found = list(coverings(one, other))
        self.assertEqual(picture(found), picture(expected), (one.text(), other.text()))
        self.assertEqual(list(coverings(one, other)), found)
        self.assertIs(covers(one, other), bool(expected))
        for covering in found:
            self.assertIs(shows_covering(one, other, covering), True)
        self.assertEqual(picture((one, other)), before)

    def test_ordinary(self):
        self.check(Question.read("A01 A23"), CHAIN, [(0, 1, 1, 2), (1, 2, 0, 1)])
        self.check(CHAIN, Question.read("A01 A23"), [])
        self.check(CHAIN, CHAIN, [(0, 1, 2)])
        self.check(CHAIN, Question.read("A74 A45"), [(7, 4, 5)])
        self.check(CHAIN, Question.read("A45 A74"), [(7, 4, 5)])

    def test_different_variables_may_become_the_same(self):
        self.check(CHAIN, Question.read("A33 A33"), [(3, 3, 3)])
        self.check(Question.read("A01"), Question.read("A99"), [(9, 9)])
        self.check(Question.read("A01 A02"), Question.read("A56 A56"), [(5, 6, 6)])

    def test_the_same_variable_does_not_become_different_ones(self):
        self.check(Question.read("A99"), Question.read("A01"), [])
        self.check(Question.read("A00 A01"), Question.read("A01 A01"), [])

    def test_each_as_often(self):
        three = [(0, 1, 1, 2), (0, 1, 2, 1), (0, 2, 1, 1)]
        self.check(Question.read("A01 A02 A03"), Question.read("A01 A01 A02"), three)
        self.check(Question.read("A01 A01 A23"), Question.read("A01 A23 A23"), [(2, 3, 0, 1)])
        self.check(Question.read("A01 A01 A01"), Question.read("A01 A01 A02"), [])
        self.check(CHAIN, Question.read("A33"), [])
        self.check(Question.read("A33"), Question.read("A33 A33"), [])
        self.check(Question.read("A01"), Question.read("A01 A23"), [])
        self.check(Question.read("A01 A01"), Question.read("A01"), [])

    def test_kinds_agree(self):
        self.check(Question.read("A01 B23"), Question.read("B45 A67"), [(6, 7, 4, 5)])
        self.check(Question.read("A01"), Question.read("B01"), [])
        self.check(Question.read("A01 A12 B23"), Question.read("A01 B12 B23"), [])

    def test_left_and_right_are_told_apart(self):
        self.check(Question.read("A01 A20"), Question.read("A34 A54"), [])
        self.check(Question.read("A10"), Question.read("A23"), [(3, 2)])

    def test_in_the_order_of_the_variables(self):
        self.check(Question.read("B95 A52"), Question.read("A17 B81"), [(7, 1, 8)])

    def test_repeated_atoms_give_no_repeated_coverings(self):
        self.check(Question(*[("A", 4, 7)] * 4), Question(*[("A", 2, 1)] * 4), [(2, 1)])
        self.check(EDGES, Question(*[("C", 0, 0)] * 4), [])
        self.check(EDGES, Question(*[("A", 5, 5)] * 4), [(5,) * 8])

    def test_all_orders_of_four_edges(self):
        with Within(20):
            found = list(coverings(EDGES, EIGHT))
        edges = ((9, 1), (8, 2), (7, 3), (6, 4))
        expected = sorted(sum(order, ()) for order in itertools.permutations(edges))
        self.assertEqual(picture(found), picture(expected))

    def test_all_variables(self):
        hit = 0
        for one, other in pairs(300):
            expected = coverings_by_variables(one, other)
            hit += len(expected) > 0
            self.check(one, other, expected)
        self.assertGreater(hit, 100)

    def test_small_questions(self):
        atoms = [(kind, left, right) for kind in "AB" for left in (0, 1) for right in (0, 1)]
        questions = [Question(*some) for many in (1, 2) for some in itertools.product(atoms, repeat=many)]
        for one, other in itertools.product(questions[::3], questions):
            self.check(one, other, coverings_by_variables(one, other))

    def test_count_of_what_covers_is_at_least_the_other(self):
        covering = 0
        for seed, (one, other) in enumerate(pairs(300, 3)):
            if covers(one, other):
                covering += 1
                for turn in range(3):
                    table = random_table(dice((seed + 1) * 10 + turn), 8, 2, 4, "AB")
                    self.assertGreaterEqual(count_by_values(one, table), count_by_values(other, table))
        self.assertGreater(covering, 100)


class ShowsCovering(unittest.TestCase):
    def check(self, one, other, thing, expected):
        before = picture((one, other, thing))
        self.assertIs(shows_covering(one, other, thing), expected, repr(thing)[:200])
        self.assertEqual(picture((one, other, thing)), before)

    def test_just_the_coverings(self):
        for one, other in pairs(30, 3, 3):
            found = coverings_by_variables(one, other)
            for thing in itertools.product(range(10), repeat=len(one.variables)):
                self.check(one, other, thing, thing in found)

    def test_changed_coverings(self):
        one, other = Question.read("A01 A23"), CHAIN
        for thing in ((0, 1, 1, 2), (1, 2, 0, 1)):
            self.check(one, other, thing, True)
            wrong = [thing[:-1], thing[1:], (*thing, 0), (0, *thing), thing * 2, list(thing), (thing,), [thing]]
            wrong += [str(thing), ("alike", thing), tuple(str(part) for part in thing), dict(enumerate(thing))]
            wrong += [tuple((part,) for part in thing), {thing: thing}]
            wrong += [(*thing[:3], part) for part in no_integers() + [-1, 9, 10]]
            for changed in wrong:
                self.check(one, other, changed, False)

    def test_bools_are_no_variables(self):
        one, other = Question.read("A01"), Question.read("A10")
        self.check(one, other, (1, 0), True)
        for thing in ((True, 0), (1, False), (True, False)):
            self.check(one, other, thing, False)
        self.check(Question.read("A00"), Question.read("A11"), (True,), False)
        self.check(Question.read("A00"), Question.read("A00"), (False,), False)

    def test_values_of_every_kind(self):
        one, other = Question.read("A00"), Question.read("A33")
        self.check(one, other, (3,), True)
        things = any_values() + [Table(("A", 0, 1, 1)), CHAIN, one, other, 3, -3, [3], ((3,),), (3, 3), "3"]
        things += [(part,) for part in no_integers()] + [(3, part) for part in no_integers()]
        for thing in things + [(3,) * 8000]:
            self.check(one, other, thing, False)
        self.check(one, Question.read("B33"), (3,), False)
        self.check(one, other, (), False)

    def test_without_coverings(self):
        for thing in ((), (0,), (0, 1), (0, 1, 2), None):
            self.check(CHAIN, Question.read("A01"), thing, False)


class Refused(unittest.TestCase):
    def first(self, one, other):
        return next(coverings(one, other), None)

    def wrong(self):
        return any_values() + [Table(), Table(("A", 0, 1, 1)), CHAIN.atoms, CHAIN.text(), [CHAIN], (CHAIN,)]

    def test_no_questions(self):
        for wrong in self.wrong():
            for call in (self.first, covers):
                check_refused(self, NoQuestion, call, wrong, CHAIN)
                check_refused(self, NoQuestion, call, CHAIN, wrong)
                check_refused(self, NoQuestion, call, wrong, wrong)
            for thing in (None, (0, 1, 2), wrong):
                check_refused(self, NoQuestion, shows_covering, wrong, CHAIN, thing)
                check_refused(self, NoQuestion, shows_covering, CHAIN, wrong, thing)
                check_refused(self, NoQuestion, shows_covering, wrong, Book(Table()), thing)

    def test_a_generator_raises_when_first_iterated(self):
        for one, other in ((None, CHAIN), (CHAIN, None), (1, 1)):
            generator = coverings(one, other)
            self.assertTrue(inspect.isgenerator(generator))
            with self.assertRaises(NoQuestion):
                next(generator)


if __name__ == "__main__":
    unittest.main()
