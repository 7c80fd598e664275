"""The words of texts, for all classes that can be read."""

from layerpost.errors import BadText


def words_of(text):
    """The words of a text, parted at single spaces."""
    if not isinstance(text, str):
        raise BadText(0, 0)
    return text.split(" ")


def number_of(word):
    """The integer from 0 on that stands in a word as `str` writes it, otherwise None."""
    if not word.isascii() or not word.isdigit():
        return None
    if len(word) > 1 and word.startswith("0"):
        return None
    return int(word)
