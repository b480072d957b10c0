"""Sums of rows, the rows being integers: which rows are sums of which others."""


def lessened(pivots, vector, taken):
    """What is left of the vector by the pivots, and the numbers of all taken for it, as bits."""
    while vector and vector.bit_length() in pivots:
        other, made = pivots[vector.bit_length()]
        vector ^= other
        taken ^= made
    return vector, taken


def echelon(vectors):
    """(pivots, ties): what lessened goes by, and independent lots, as bits, of vectors whose sum is nought."""
    pivots = {}
    ties = []
    for at, vector in enumerate(vectors):
        left, taken = lessened(pivots, vector, 1 << at)
        if left:
            pivots[left.bit_length()] = (left, taken)
        else:
            ties.append(taken)
    return pivots, ties


def are_independent(vectors):
    """Whether none of them is a sum of others, nor nought."""
    _, ties = echelon(vectors)
    return ties == []


def meet_oddly(one, other):
    """Whether an odd number of bits is on in both."""
    return f"{one & other:b}".count("1") & 1 == 1


def all_sums(vectors):
    """The list of all sums of independent vectors, nought among them."""
    sums = [0]
    for vector in vectors:
        sums = sums + [vector ^ other for other in sums]
    return sums
