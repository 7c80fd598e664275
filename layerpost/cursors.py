"""Lines of pages, and lines for desks, word by word: what cannot stand, or is missing, is a BadText."""

from layerpost.checks import is_name, is_within
from layerpost.errors import BadText
from layerpost.frames import FrameRule
from layerpost.losses import LossRule
from layerpost.plans import Plan
from layerpost.rounds import Round
from layerpost.words import number_of, words_of


def part_of(kind, text):
    """The frame rule, plan, loss rule or round with this text."""
    if kind == "frame":
        return FrameRule.read(text)
    if kind == "plan":
        return Plan.read(text)
    if kind == "rule":
        return LossRule.read(text)
    return Round.read(text)


class Cursor:
    """The words of a line, and how many of them are taken."""

    def __init__(self, text, line):
        self.words = words_of(text)
        self.line = line
        self.at = 0

    def here(self):
        """The next word; an empty one, which can stand nowhere, behind the last one."""
        return self.words[self.at] if self.at < len(self.words) else ""

    def take_if(self, is_right):
        """The next word, if it can stand here."""
        word = self.here()
        if not is_right or word == "":
            raise BadText(self.line, self.at)
        self.at = self.at + 1
        return word

    def take_word(self, choices):
        """The next word, one of these."""
        return self.take_if(self.here() in choices)

    def take_name(self):
        """The next word, a name."""
        return self.take_if(is_name(self.here()))

    def take_number(self, least, most):
        """The integer in the next word, with these bounds."""
        return int(self.take_if(is_within(number_of(self.here()), least, most)))

    def take_signs(self, signs, most):
        """Some of these signs in the next word, at most so many; `-` stands for none."""
        word = self.here()
        is_right = word == "-" or word.strip(signs) == "" and len(word) <= most
        word = self.take_if(is_right)
        return "" if word == "-" else word

    def take_part(self, kind, end):
        """The part in the words from here on, ahead of the next word end, or up to the last one if end is None."""
        words = self.words[self.at:]
        if end in words:
            words = words[:words.index(end)]
        try:
            part = part_of(kind, " ".join(words))
        except BadText as error:
            raise BadText(self.line, self.at + error.word)
        self.at = self.at + len(words)
        return part

    def end_line(self):
        """Raises if there is a word more."""
        if self.at < len(self.words):
            raise BadText(self.line, self.at)


class Page:
    """The lines of a page, and how many of them are taken."""

    def __init__(self, text):
        if not isinstance(text, str):
            raise BadText(0, 0)
        self.lines = text.split("\n")
        self.at = 0

    def is_over(self):
        """Whether all lines are taken."""
        return self.at == len(self.lines)

    def next_line(self, choices):
        """The pair of the first word of the next line, one of these, and of the Cursor behind it."""
        if self.at == len(self.lines):
            raise BadText(self.at, 0)
        cursor = Cursor(self.lines[self.at], self.at)
        word = cursor.take_word(choices)
        self.at = self.at + 1
        return word, cursor

    def line_of(self, word):
        """The Cursor behind the first word of the next line, which is this one."""
        _, cursor = self.next_line([word])
        return cursor
