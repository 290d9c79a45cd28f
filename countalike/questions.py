"""Questions: atoms of a kind and two variables, which are counted in tables."""

from countalike.common import is_triple, number_of_word
from countalike.errors import NoAtoms, NoQuestion, NoText, TooMuch
from countalike.tables import check_table

MOST_ATOMS = 4
MOST_VARIABLE = 9


def are_atoms(things):
    """Whether the things can be the atoms of one question."""
    return 1 <= len(things) <= MOST_ATOMS and all([is_triple(thing, MOST_VARIABLE) for thing in things])


def text_of_atoms(atoms):
    """The atoms in their order, separated by single spaces."""
    return " ".join([f"{kind}{left}{right}" for kind, left, right in atoms])


def atom_of_word(word):
    """What the word says, as a tuple that may be an atom or not."""
    return (word[:1], number_of_word(word[1:2]), number_of_word(word[2:]))


def variables_of(atoms):
    """The ascending tuple of the variables of the atoms."""
    return tuple(sorted({variable for kind, left, right in atoms for variable in (left, right)}))


def touches(atom, reached):
    """Whether the atom has one of the reached variables."""
    return atom[1] in reached or atom[2] in reached


def hang_together(atoms):
    """Whether all atoms can be reached from the first one, from variable to variable."""
    reached = variables_of(atoms[:1])
    # Each turn reaches one more atom at least, if there is one to be reached.
    for turn in range(len(atoms)):
        reached = variables_of([atom for atom in atoms if touches(atom, reached)])
    return all([touches(atom, reached) for atom in atoms])


class Question:
    """One to four atoms (kind, left, right), in the order in which they are given."""

    def __init__(self, *atoms):
        if not are_atoms(atoms):
            raise NoAtoms("a question has 1 to 4 atoms (kind, left, right)")
        self.given = atoms
        self.ordered = tuple(sorted(atoms))
        self.used = variables_of(atoms)

    @property
    def atoms(self):
        """The tuple of the atoms as given."""
        return self.given

    @property
    def variables(self):
        """The ascending tuple of the variables."""
        return self.used

    @property
    def hangs(self):
        """Whether the atoms hang together."""
        return hang_together(self.given)

    def __len__(self):
        return len(self.given)

    def __eq__(self, other):
        return isinstance(other, Question) and self.ordered == other.ordered

    def __repr__(self):
        return f"Question({len(self.given)} atoms, {len(self.used)} variables)"

    def __add__(self, other):
        check_question(other)
        step = self.used[-1] + 1
        behind = [(kind, left + step, right + step) for kind, left, right in other.given]
        return question_within_limits([*self.given, *behind])

    def __or__(self, other):
        check_question(other)
        return question_within_limits([*self.given, *other.given])

    def turned(self):
        """The question with left and right exchanged in each atom."""
        atoms = [(kind, right, left) for kind, left, right in self.given]
        return Question(*atoms)

    def __call__(self, table):
        check_table(table)
        return count_of(self, table)

    def text(self):
        """The atoms in their order, as in A01 A12."""
        return text_of_atoms(self.given)

    @classmethod
    def read(cls, text):
        """The question with exactly this text."""
        if not isinstance(text, str):
            raise NoText("a question is read from a text")
        atoms = [atom_of_word(word) for word in text.split(" ")]
        # A variable with leading zeros gives an atom, too; only the writing of text() is right.
        if not are_atoms(atoms) or text_of_atoms(atoms) != text:
            raise NoText("this is not the text of a question")
        return cls(*atoms)


def check_question(thing):
    """Raise NoQuestion unless the thing is a question."""
    if not isinstance(thing, Question):
        raise NoQuestion("a question is needed")


def question_within_limits(atoms):
    """The question of these atoms, which came from those of questions and may have become too many or too great."""
    if not are_atoms(atoms):
        raise TooMuch("a question has at most 4 atoms and variables up to 9")
    return Question(*atoms)


def agrees(chosen, atom, row):
    """Whether the atom can name the row, given the values that have been chosen for variables."""
    kind, left, right = atom
    if row[0] != kind or (left == right and row[1] != row[2]):
        return False
    return chosen.get(left, row[1]) == row[1] and chosen.get(right, row[2]) == row[2]


def choices(question, table):
    """A pair for each way, in no certain order: a dict with the value of each variable, and the weight."""
    found = [({}, 1)]
    # Only rows give values: trying every value for every variable would take too long.
    for atom in question.atoms:
        found = [
            ({**chosen, atom[1]: row[1], atom[2]: row[2]}, weight * row[3])
            for chosen, weight in found
            for row in table.rows
            if agrees(chosen, atom, row)
        ]
    return found


def count_of(question, table):
    """The sum of the weights of all ways."""
    return sum([weight for chosen, weight in choices(question, table)])


def way_of(chosen, variables):
    """The chosen values in the order of the variables."""
    return tuple([chosen[variable] for variable in variables])


def ways(question, table):
    """Yield the tuples (way, weight), ascending."""
    check_question(question)
    check_table(table)
    found = [(way_of(chosen, question.variables), weight) for chosen, weight in choices(question, table)]
    for pair in sorted(found):
        yield pair
