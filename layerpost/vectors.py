"""Vectors of bits that add modulo 2, as integers, for spaces and standings.

A basis is a tuple of vectors, descending, none 0, none with the highest bit of
another one: each space has one such basis.
"""


def basis_of(vectors):
    """The basis of the least space with these vectors."""
    basis = []
    for vector in vectors:
        rest = vector
        for row in basis:
            # The less of both has not the highest bit of the row.
            rest = min(rest, rest ^ row)
        if rest != 0:
            basis = sorted([rest, *[min(row, row ^ rest) for row in basis]], reverse=True)
    return tuple(basis)


def is_odd(vector):
    """Whether the number of bits of a vector is odd."""
    rest = vector
    parity = False
    while rest > 0:
        rest = rest & (rest - 1)
        parity = not parity
    return parity


def heard_vectors(vectors, mask):
    """Vectors that make the space of those with an even number of bits in common with a mask."""
    odd = [vector for vector in vectors if is_odd(vector & mask)]
    even = [vector for vector in vectors if not is_odd(vector & mask)]
    return even + [vector ^ odd[0] for vector in odd[1:]]


def picked_vector(vector, places):
    """The vector that has at the bit k the bit places[k] of this one."""
    picked = 0
    for at, place in enumerate(places):
        picked = picked | (((vector >> place) & 1) << at)
    return picked
