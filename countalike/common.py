"""What tables and questions have in common: integers, triples, and numbers in texts."""

KINDS = ("A", "B", "C")
LONGEST_NUMBER = 5


def is_number(thing, least, most):
    """Whether the thing is an integer from least to most; a bool is none."""
    return isinstance(thing, int) and not isinstance(thing, bool) and least <= thing <= most


def is_triple(thing, most):
    """Whether the thing is a tuple of a kind and two integers from 0 to most."""
    if not isinstance(thing, tuple) or len(thing) != 3:
        return False
    kind, left, right = thing
    # Only a string is compared with the kinds: other values bring an equality of their own.
    if not isinstance(kind, str) or kind not in KINDS:
        return False
    return is_number(left, 0, most) and is_number(right, 0, most)


def number_of_word(word):
    """The number that the word writes in digits, -1 if it is no number that any text contains."""
    # Longer words are left out first, since Python refuses to read thousands of digits.
    if len(word) > LONGEST_NUMBER or not word.isascii() or not word.isdigit():
        return -1
    return int(word)
