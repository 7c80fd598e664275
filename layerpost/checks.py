"""Checks of the kinds of values; each takes any value and answers True or False."""

NAME_LETTERS = "abcdefghijklmnopqrstuvwxyz"
MOST_NAME_LETTERS = 8
MOST_LETTER_SIGNS = 200
WAYS = ("first", "spare")


def is_integer(value):
    """Whether it is an int that is not a bool."""
    return isinstance(value, int) and not isinstance(value, bool)


def is_within(value, least, most):
    """Whether it is an integer from least to most."""
    return is_integer(value) and least <= value <= most


def is_from_zero(value):
    """Whether it is an integer from 0 on."""
    return is_integer(value) and value >= 0


def is_name(value):
    """Whether it is a string of 1 to 8 letters from a to z."""
    if not isinstance(value, str):
        return False
    return 1 <= len(value) <= MOST_NAME_LETTERS and value.strip(NAME_LETTERS) == ""


def is_signs(value):
    """Whether it is a string of 0 and 1, perhaps empty."""
    return isinstance(value, str) and value.strip("01") == ""


def is_signs_within(value, least, most):
    """Whether it is a string of so many signs 0 and 1."""
    return is_signs(value) and least <= len(value) <= most


def is_letter(value):
    """Whether it is a letter: a string of at most 200 signs 0 and 1."""
    return is_signs_within(value, 0, MOST_LETTER_SIGNS)


def is_way_word(value):
    """Whether it is the word for one of the two ways of a flow."""
    return isinstance(value, str) and value in WAYS
