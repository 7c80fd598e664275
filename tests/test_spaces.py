"""Spaces: against the sets of all their vectors."""

from itertools import product

from layerpost.spaces import Space
from tests.helpers import Case, any_values, dealer


def all_vectors(vectors):
    """The set of all vectors that are made by some."""
    found = {0}
    for vector in vectors:
        found |= {one ^ vector for one in found}
    return found


def dealt_space(chance, width=None):
    """A width and vectors by chance."""
    width = width or chance.randint(1, 8)
    return width, [chance.randrange(2 ** width) for _ in range(chance.randint(0, width))]


class SpaceTest(Case):

    def is_right_basis(self, basis):
        """Descending, none 0, none with the highest bit of another one."""
        self.assertIsInstance(basis, tuple)
        self.assertEqual(sorted(basis, reverse=True), list(basis))
        for at, vector in enumerate(basis):
            self.assertGreater(vector, 0)
            high = 1 << vector.bit_length() - 1
            self.assertFalse([other for place, other in enumerate(basis) if place != at and other & high])

    def test_basis_and_equality(self):
        chance = dealer(1)
        for width in range(1, 9):
            for _ in range(60):
                one, other = dealt_space(chance, width)[1], dealt_space(chance, width)[1]
                space = Space(width, *one)
                self.is_right_basis(space.basis)
                self.assertEqual(all_vectors(space.basis), all_vectors(one))
                self.assertIs(space == Space(width, *other), all_vectors(one) == all_vectors(other))
                self.assertEqual(space.width, width)
        self.assertNotEqual(Space(2, 1), Space(3, 1))
        for value in any_values():
            self.assertFalse(Space(1) == value)

    def test_all_small_spaces(self):
        for vectors in product(range(8), repeat=3):
            self.assertEqual(all_vectors(Space(3, *vectors).basis), all_vectors(vectors))

    def test_heard_and_knows(self):
        chance = dealer(2)
        for _ in range(300):
            width, vectors = dealt_space(chance)
            space = Space(width, *vectors)
            sums = [chance.randrange(2 ** width) for _ in range(chance.randrange(4))]
            left = {one for one in all_vectors(vectors) if not [1 for mask in sums if bin(one & mask).count("1") % 2]}
            heard = space.heard(*sums)
            self.is_right_basis(heard.basis)
            self.assertEqual((heard.width, all_vectors(heard.basis)), (width, left))
            for place in range(width):
                self.assertIs(space.knows(place=place), not [one for one in all_vectors(vectors) if one >> place & 1])
            self.assertEqual(space, Space(width, *vectors))

    def test_opened(self):
        chance = dealer(3)
        for _ in range(200):
            width, vectors = dealt_space(chance, chance.randint(1, 7))
            space = Space(width, *vectors)
            up = {2 * one for one in all_vectors(vectors)}
            self.assertEqual(all_vectors(space.opened(free=False).basis), up)
            self.assertEqual(all_vectors(space.opened(True).basis), up | {one + 1 for one in up})
            self.assertEqual(space.opened(True).width, width + 1)
            for value in (1, "True", [True], None):
                self.assertEqual(space.opened(value), space.opened(False))
        self.refused(("TooMany", "places", 8), Space(8).opened, True)
        self.refused(("TooMany", "places", 8), Space(8).opened, None)

    def test_picked(self):
        chance = dealer(4)
        for _ in range(300):
            width, vectors = dealt_space(chance)
            places = [chance.randrange(width) for _ in range(chance.randint(1, 8))]
            picked = Space(width, *vectors).picked(*places)
            self.is_right_basis(picked.basis)
            self.assertEqual(picked.width, len(places))
            self.assertEqual(all_vectors(picked.basis), {sum([(one >> place & 1) << at for at, place in enumerate(places)])
                                                        for one in all_vectors(vectors)})

    def test_refused(self):
        for value in [*any_values(), 0, 9]:
            self.refused(("BadNumber", value), Space, value, -1)
        for width in (1, 4, 8):
            space = Space(width, 1)
            for value in [*any_values(), 2 ** width]:
                self.refused(("BadNumber", value), Space, width, 0, value, None)
                self.refused(("BadNumber", value), space.heard, 1, value, -1)
            for value in [*any_values(), width]:
                self.refused(("BadNumber", value), space.knows, value)
                self.refused(("BadNumber", value), space.picked, 0, value, -1)
                self.refused(("BadNumber", value), space.picked, *[0] * 9, value)
            self.refused(("BadNumber", 0), space.picked)
            self.refused(("TooMany", "places", 8), space.picked, *[0] * 9)
        self.assertEqual(Space(width=8).basis, ())
        self.assertEqual(Space(8, 255).heard(), Space(8, 255))
