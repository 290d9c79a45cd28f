"""Values and checks that several tests share."""

import itertools
import random
import signal

from countalike.books import Book, Capped, CappedMirror, Mirrored
from countalike.errors import CountError, NoRows
from countalike.questions import Question, ways
from countalike.tables import Table

KINDS = ("A", "B", "C")


def deep(depth):
    thing = [1]
    for turn in range(depth - 1):
        thing = [thing] if turn % 2 else (thing,)
    return thing


def no_integers():
    """Values of every kind but integers; new ones at each call."""
    return [
        True, False, None, "", "0", "1", "A", "B 1 2 1\n", "A01", [], [1], ["A", 0, 1], (), (1,), (0, 1), {}, {1: 1},
        {"A": 0}, [True], (True,), ((1,),), [[1]], {"rows": [("A", 0, 1, 1)]}, deep(20), [1] * 8000, Table(),
        Table(("A", 0, 1, 1)), Question(("A", 0, 1)), NoRows("no"), ways(Question(("A", 0, 1)), Table()), Table,
        Question, Book(Table()), Mirrored(Table(("A", 1, 1, 1))), Capped(Table(), 5), CappedMirror(Table()),
        Book(Table()).trying(), Book,
    ]


def no_kinds():
    """Values that are no kinds."""
    wrong = ["a", "D", "AB", " A", "A ", "A\n", "\nA", "A0", "ABC", 0, 1, 65, -1, ["A"], ("A",), {"A": "A"}]
    return [thing for thing in no_integers() if thing != "A"] + wrong


def any_values():
    """Values of every kind, integers among them, none of them a table or a question."""
    objects = (Table, Question)
    return [thing for thing in no_integers() if not isinstance(thing, objects)] + [0, 1, -1, 9, 10 ** 12]


def no_triples(most):
    """Values that are no tuples (kind, left, right) with integers from 0 to most."""
    wrong = any_values() + [Table(("A", 0, 1, 1)), Question(("A", 0, 1))]
    wrong += [["A", 0, 1], "A01", ("A",), ("A", 0), ("A", 0, 1, 1), ("A", 0, 1, None), (("A", 0, 1),), [("A", 0, 1)]]
    wrong += [(0, "A", 1), (0, 1, "A"), ("A", (0, 1)), {"A": (0, 1)}, {"A": 0, 0: 1, 1: 2}, ("A", "0", "1")]
    for kind in no_kinds():
        wrong.append((kind, 0, 1))
    for number in no_integers() + [-1, most + 1, most + 2, 10 ** 12, -(10 ** 12)]:
        wrong += [("A", number, 1), ("A", 0, number), ("A", number, number)]
    return wrong


def picture(thing):
    """A description of a value that tells 1 from True and a list from a tuple."""
    if isinstance(thing, (list, tuple)):
        return type(thing).__name__, [picture(part) for part in thing]
    if isinstance(thing, dict):
        return "dict", [(picture(key), picture(thing[key])) for key in thing]
    if isinstance(thing, Table):
        return "Table", picture(thing.rows), thing.text()
    if isinstance(thing, Question):
        return "Question", picture(thing.atoms), picture(thing.variables), thing.hangs
    if isinstance(thing, Book):
        return picture_of_book(thing)
    return type(thing).__name__, repr(thing)


def picture_of_book(book):
    """All that can be read from a book."""
    shown = [book.table, book.questions, book.counts, book.changes, len(book), getattr(book, "most", None)]
    return repr(book), picture(shown)


def check_refused(test, error, call, *arguments):
    """The call raises just this error, with a message, and changes nothing that it is passed."""
    before = picture(arguments)
    told = repr(arguments)[:200]
    try:
        result = call(*arguments)
    except CountError as caught:
        test.assertIs(type(caught), error, told)
        test.assertNotEqual(str(caught), "", told)
    else:
        test.fail(f"not refused: {told} gave {result!r}")
    test.assertEqual(picture(arguments), before)


def random_table(dice, many, greatest, most_often=10, kinds=KINDS):
    """A table with so many rows (or all that there are), given in any order."""
    keys = list(itertools.product(kinds, range(greatest + 1), range(greatest + 1)))
    chosen = dice.sample(keys, min(many, len(keys)))
    return Table(*[(*key, dice.randint(1, most_often)) for key in chosen])


def random_question(dice, many, variables, kinds=KINDS):
    """A question with so many atoms over some of these variables."""
    return Question(*[(dice.choice(kinds), dice.choice(variables), dice.choice(variables)) for turn in range(many)])


def ways_by_values(question, table):
    """The ways with their weights, by trying all values of the table for all variables."""
    values = sorted({value for row in table.rows for value in row[1:3]})
    found = []
    for way in itertools.product(values, repeat=len(question.variables)):
        worth = dict(zip(question.variables, way))
        weight = 1
        for kind, left, right in question.atoms:
            weight *= table[kind, worth[left], worth[right]]
        if weight:
            found.append((way, weight))
    return found


def count_by_values(question, table):
    return sum(weight for way, weight in ways_by_values(question, table))


def dice(seed):
    return random.Random(seed)


class Within:
    """A with block that fails if it takes more than so many seconds."""

    def __init__(self, seconds):
        self.seconds = seconds

    def __enter__(self):
        self.former = signal.signal(signal.SIGALRM, self.fail)
        signal.alarm(self.seconds)

    def __exit__(self, *told):
        signal.alarm(0)
        signal.signal(signal.SIGALRM, self.former)

    def fail(self, *told):
        raise AssertionError(f"took more than {self.seconds} seconds")
