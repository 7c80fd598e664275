"""Spaces: the differences by which rows can be otherwise, with all that was heard the same."""

from layerpost.checks import is_within
from layerpost.errors import BadNumber, TooMany
from layerpost.vectors import basis_of, heard_vectors, picked_vector

MOST_WIDTH = 8


def check_vectors(width, vectors):
    """Raises for the first of any values that is no integer below 2 ** width."""
    for vector in vectors:
        if not is_within(vector, 0, (1 << width) - 1):
            raise BadNumber(vector)


def check_place(width, place):
    """Raises if any value is no place of a space of this width."""
    if not is_within(place, 0, width - 1):
        raise BadNumber(place)


class Space:
    """The least space of a width with these vectors. It never changes."""

    def __init__(self, width, *vectors):
        if not is_within(width, 1, MOST_WIDTH):
            raise BadNumber(width)
        check_vectors(width, vectors)
        self.width = width
        self.basis = basis_of(vectors)

    def __eq__(self, other):
        return isinstance(other, Space) and self.width == other.width and self.basis == other.basis

    def heard(self, *sums):
        """The space of the vectors with an even number of bits in common with each sum."""
        check_vectors(self.width, sums)
        vectors = list(self.basis)
        for mask in sums:
            vectors = heard_vectors(vectors, mask)
        return Space(self.width, *vectors)

    def knows(self, place):
        """Whether no vector has this bit."""
        check_place(self.width, place)
        return not any([(vector >> place) & 1 for vector in self.basis])

    def opened(self, free):
        """The space with all bits one place up; the bit 0 is 0, or 1 too if free is True."""
        if self.width == MOST_WIDTH:
            raise TooMany("places", MOST_WIDTH)
        vectors = [vector << 1 for vector in self.basis]
        if free is True:
            vectors.append(1)
        return Space(self.width + 1, *vectors)

    def picked(self, *places):
        """The space whose vectors have at the bit k the bit places[k] of one of these."""
        for place in places:
            check_place(self.width, place)
        if len(places) == 0:
            raise BadNumber(0)
        if len(places) > MOST_WIDTH:
            raise TooMany("places", MOST_WIDTH)
        vectors = [picked_vector(vector, places) for vector in self.basis]
        return Space(len(places), *vectors)
