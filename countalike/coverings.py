"""Coverings: the atoms of one question sent to those of another one, each as often."""

from countalike.common import is_number
from countalike.questions import MOST_VARIABLE, agrees, check_question, way_of


def sendings(one, other):
    """A dict from variables to variables for each way to send the atoms of one to all those of other."""
    found = [({}, other.atoms)]
    # Only atoms give variables: trying every variable for every variable would take too long.
    for atom in one.atoms:
        found = [
            ({**sent, atom[1]: goal[1], atom[2]: goal[2]}, rest[:at] + rest[at + 1:])
            for sent, rest in found
            for at, goal in enumerate(rest)
            if agrees(sent, atom, goal)
        ]
    return [sent for sent, rest in found if len(rest) == 0]


def all_coverings(one, other):
    """The list of the coverings from one to other, ascending."""
    check_question(one)
    check_question(other)
    # Atoms that occur several times are sent in several orders, which give the same covering.
    return sorted({way_of(sent, one.variables) for sent in sendings(one, other)})


def is_tuple_of_variables(thing):
    """Whether the thing is a tuple of variables; a bool is none, though Python finds it equal to one."""
    return isinstance(thing, tuple) and all([is_number(part, 0, MOST_VARIABLE) for part in thing])


def coverings(one, other):
    """Yield all coverings from one to other, ascending."""
    for covering in all_coverings(one, other):
        yield covering


def covers(one, other):
    """Whether there is a covering from one to other."""
    return len(all_coverings(one, other)) > 0


def shows_covering(one, other, thing):
    """Whether the thing is a covering from one to other."""
    found = all_coverings(one, other)
    return is_tuple_of_variables(thing) and thing in found
