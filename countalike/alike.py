"""Alike and apart: renamings, the table that tells two questions apart, and normal forms."""

from countalike.coverings import all_coverings, is_tuple_of_variables
from countalike.questions import Question, check_question, count_of
from countalike.tables import Table

MOST_TRIED = 4


def all_renamings(one, other):
    """The list of the renamings from one to other, ascending."""
    return [covering for covering in all_coverings(one, other) if len(set(covering)) == len(covering)]


def renamings(one, other):
    """Yield all renamings from one to other, ascending."""
    for renaming in all_renamings(one, other):
        yield renaming


def count_differently(one, other, table):
    """Whether the counts of the questions in the table are different."""
    return count_of(one, table) != count_of(other, table)


def tuples_of_numbers(many):
    """All tuples of so many numbers from 0 to 4, ascending."""
    found = [()]
    for turn in range(many):
        found = [(*numbers, number) for numbers in found for number in range(MOST_TRIED + 1)]
    return found


def table_of_numbers(keys, numbers):
    """The table with each key as often as its number says, not at all for 0."""
    rows = [(*key, number) for key, number in zip(keys, numbers) if number > 0]
    return Table(*rows)


def telling_table(one, other):
    """The first table over the atoms of the question with more variables in which the two count differently."""
    longer = other if len(other.variables) > len(one.variables) else one
    keys = sorted(set(longer.atoms))
    # One of these is returned if no renaming exists: the counts are then different polynomials in the numbers, and
    # with 4 atoms no number has a power above 4, so that they cannot agree at all the numbers from 0 to 4.
    for numbers in tuples_of_numbers(len(keys)):
        table = table_of_numbers(keys, numbers)
        if count_differently(one, other, table):
            return table


def alike(one, other):
    """("alike", the first renaming), or ("apart", a table in which the questions count differently)."""
    found = all_renamings(one, other)
    if len(found) > 0:
        return ("alike", found[0])
    return ("apart", telling_table(one, other))


def shows_alike(one, other, thing):
    """Whether the thing is a verdict as of alike, with any renaming or any table that tells them apart."""
    check_question(one)
    check_question(other)
    if not isinstance(thing, tuple) or len(thing) != 2:
        return False
    word, shown = thing
    if word == "alike":
        return is_tuple_of_variables(shown) and shown in all_renamings(one, other)
    return word == "apart" and isinstance(shown, Table) and count_differently(one, other, shown)


def all_orders(atoms):
    """The list of all orders of the atoms, as tuples."""
    found = [()]
    for atom in atoms:
        found = [order[:at] + (atom,) + order[at:] for order in found for at in range(len(order) + 1)]
    return found


def numbered(atoms):
    """The atoms with their variables numbered from 0 on as they come, left before right."""
    numbers = {}
    for kind, left, right in atoms:
        numbers.setdefault(left, len(numbers))
        numbers.setdefault(right, len(numbers))
    return tuple([(kind, numbers[left], numbers[right]) for kind, left, right in atoms])


def normal(question):
    """The question with the first of the tuples of numbered atoms, over all orders of the atoms."""
    check_question(question)
    first = min([numbered(order) for order in all_orders(question.atoms)])
    return Question(*first)
