"""The short session of point 1, line by line."""

import doctest
import unittest

SESSION = r"""
>>> from countalike.tables import Table
>>> from countalike.questions import Question
>>> from countalike.alike import alike, normal
>>> friends = Table(("A", 0, 1, 2), ("A", 1, 2, 1), ("A", 1, 1, 3))
>>> chain = Question(("A", 0, 1), ("A", 1, 2))
>>> chain(friends)
20
>>> alike(chain, Question(("A", 7, 4), ("A", 4, 5)))
('alike', (7, 4, 5))
>>> verdict = alike(chain, Question(("A", 0, 1), ("A", 0, 2)))
>>> verdict[1].text()
'A 1 2 1\n'
>>> normal(Question(("A", 5, 3), ("A", 3, 3))).text()
'A00 A10'
"""


class Session(unittest.TestCase):
    def test_line_by_line(self):
        session = doctest.DocTestParser().get_doctest(SESSION, {}, "session", None, None)
        self.assertEqual(len(session.examples), 10)
        told = []
        outcome = doctest.DocTestRunner(verbose=False).run(session, out=told.append)
        self.assertEqual(outcome.attempted, 10)
        self.assertEqual(outcome.failed, 0, "".join(told))


if __name__ == "__main__":
    unittest.main()
