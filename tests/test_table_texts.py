"""Table: text() and Table.read(text) (point 11)."""

import itertools
import re
import unittest

from countalike.errors import NoText
from countalike.tables import Table
from tests.samples import any_values, check_refused, dice, no_integers, random_table

LINE = re.compile(r"([ABC]) (0|[1-9][0-9]?) (0|[1-9][0-9]?) ([1-9][0-9]{0,3}|10000)\n")
SIGNS = "ABCDa0129 -+_.,\n\t"


def is_table_text(text):
    """Whether lines of the right form follow each other in ascending order, by a pattern."""
    keys = []
    at = 0
    while at < len(text):
        found = LINE.match(text, at)
        if not found:
            return False
        kind, left, right, often = found.groups()
        keys.append((kind, int(left), int(right)))
        at = found.end()
    return len(keys) <= 12 and all(low < high for low, high in zip(keys, keys[1:]))


def changed_texts(text):
    """Texts with one sign left out, added, changed or exchanged with the next one."""
    for at in range(len(text) + 1):
        yield text[:at] + text[at + 1:]
        yield text[:at] + text[at:at + 2][::-1] + text[at + 2:]
        for sign in SIGNS:
            yield text[:at] + sign + text[at:]
            yield text[:at] + sign + text[at + 1:]


def rearranged_texts(text, mark):
    """Texts with parts left out, repeated, exchanged or added."""
    parts = text.split(mark)
    for at in range(len(parts)):
        yield mark.join(parts[:at] + parts[at + 1:])
        yield mark.join(parts[:at] + [parts[at], parts[at]] + parts[at + 1:])
        for word in ("", "A", "0", "00", "01", "+1", "-1", "1.0", "100", "10001", "A 0 1 1", "rows"):
            yield mark.join(parts[:at] + [word] + parts[at:])
            yield mark.join(parts[:at] + [word] + parts[at + 1:])
    for order in itertools.islice(itertools.permutations(parts), 1, 120):
        yield mark.join(order)


class Texts(unittest.TestCase):
    def test_lines(self):
        table = Table(("B", 0, 0, 1), ("A", 10, 0, 10000), ("A", 9, 99, 7))
        self.assertEqual(table.text(), "A 9 99 7\nA 10 0 10000\nB 0 0 1\n")
        self.assertEqual(Table(("A", 1, 2, 1)).text(), "A 1 2 1\n")

    def test_without_rows(self):
        self.assertEqual(Table().text(), "")
        self.assertEqual(Table.read(""), Table())

    def test_there_and_back(self):
        for seed in range(60):
            table = random_table(dice(seed), seed % 13, (1, 9, 30, 99)[seed % 4], (1, 10, 10000)[seed % 3])
            text = table.text()
            self.assertTrue(is_table_text(text))
            self.assertEqual(Table.read(text), table)
            self.assertEqual(Table.read(text).text(), text)
            self.assertEqual(Table.read(text).rows, table.rows)

    def test_other_texts_return_or_are_refused(self):
        friends = "A 0 1 2\nA 1 1 3\nA 1 2 1\n"
        texts = [friends, "", "C 99 10 10000\n", "A 0 0 1\nB 10 9 10\n", "A 9 1 999\nA 10 1 1000\n"]
        for text in texts:
            others = list(changed_texts(text))
            others += list(rearranged_texts(text, "\n")) + list(rearranged_texts(text, " "))
            for other in others:
                if is_table_text(other):
                    self.assertEqual(Table.read(other).text(), other)
                else:
                    check_refused(self, NoText, Table.read, other)

    def test_wrong_texts(self):
        wrong = [
            "A 1 2 1", "\n", "A 1 2 1\n\n", "\nA 1 2 1\n", " A 1 2 1\n", "A 1 2 1 \n", "A  1 2 1\n", "A\t1 2 1\n",
            "A 1 2 1\r\n", "A 1 2\n1\n", "A 1 2\n", "A 1 2 1 1\n", "A 01 2 1\n", "A 1 02 1\n", "A 1 2 01\n",
            "A 00 2 1\n", "A +1 2 1\n", "A 1 -2 1\n", "A -0 2 1\n", "A 1 2 0\n", "A 1 2 -1\n", "A 1 2 10001\n",
            "A 100 2 1\n", "A 1 100 1\n", "D 1 2 1\n", "a 1 2 1\n", "AB 1 2 1\n", " 1 2 1\n", "A 1 2 1_0\n",
            "A 1 2 1.0\n", "A 1 2 1e1\n", "A 1 2 0x1\n", "A 1 2 True\n", "A1 2 1\n", "A 12 1\n", "A,1,2,1\n",
            "A 1 2 1\nA 1 2 1\n", "A 1 2 1\nA 1 2 2\n", "A 1 2 2\nA 1 2 1\n", "B 1 2 1\nA 1 2 1\n",
            "A 10 0 1\nA 9 0 1\n", "A 1 10 1\nA 1 9 1\n", "A 1 2 1\x0bA 1 3 1\n", "A 1 2 \u0661\n", "A 1 2 \u00b2\n",
            "A 1 2 " + "1" * 900 + "\n", "A 1 2 " + "0" * 900 + "1\n", "A 1 2 " + "9" * 6000 + "\n", "Table(1 rows)",
            "('A', 1, 2, 1)",
        ]
        for text in wrong:
            check_refused(self, NoText, Table.read, text)

    def test_twelve_and_thirteen_lines(self):
        lines = [f"B {at} 0 1\n" for at in range(13)]
        self.assertEqual(len(Table.read("".join(lines[:12]))), 12)
        check_refused(self, NoText, Table.read, "".join(lines))

    def test_other_kinds_of_values(self):
        things = [thing for thing in any_values() + no_integers() if not isinstance(thing, str)]
        for thing in things + [["A 1 2 1\n"], ("A 1 2 1\n",), Table(("A", 1, 2, 1)), ("A", 1, 2, 1)]:
            check_refused(self, NoText, Table.read, thing)

    def test_words_that_are_no_table(self):
        for text in ("0", "1", "A", "A01", "A01 A12"):
            check_refused(self, NoText, Table.read, text)


if __name__ == "__main__":
    unittest.main()
