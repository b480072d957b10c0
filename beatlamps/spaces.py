"""Sums of rows, the rows being integers: which rows are sums of which others."""

from beatlamps.bits import as_bits, how_many


def lessened(pivots, vector, taken):
    """What is left of the vector by the pivots, and the numbers of all taken for it, as bits."""
    while vector and vector.bit_length() in pivots:
        other, made = pivots[vector.bit_length()]
        vector ^= other
        taken ^= made
    return vector, taken


def echelon(vectors):
    """(pivots, ties): what lessened goes by, and independent lots, as bits, of vectors whose sum is nought."""
    pivots = {}
    ties = []
    for at, vector in enumerate(vectors):
        left, taken = lessened(pivots, vector, 1 << at)
        if left:
            pivots[left.bit_length()] = (left, taken)
        else:
            ties.append(taken)
    return pivots, ties


def are_independent(vectors):
    """Whether none of them is a sum of others, nor nought."""
    _, ties = echelon(vectors)
    return ties == []


def meet_oddly(one, other):
    """Whether an odd number of bits is on in both."""
    return how_many(one & other) & 1 == 1


def meets_all_evenly(vectors, bits):
    """Whether it meets each of them evenly."""
    return not any([meet_oddly(vector, bits) for vector in vectors])


def evenly_met(vectors, size):
    """As many independent rows of this size as there are that meet each of the vectors evenly."""
    columns = []
    for place in range(size):
        columns.append(as_bits([at for at, vector in enumerate(vectors) if vector >> place & 1]))
    # Places whose columns sum to nought are the lamps of a row that meets all evenly.
    _, ties = echelon(columns)
    return ties


def rank_of(vectors):
    """How many of them, at most, are independent."""
    pivots, _ = echelon(vectors)
    return len(pivots)


def lots_below(bound, many):
    """The ascending list of all lots of so many integers from 0 on, all of them below the bound."""
    lots = [()]
    for _ in range(many):
        lots = [lot + (at,) for lot in lots for at in range(lot[-1] + 1 if lot else 0, bound)]
    return lots


def all_sums(vectors):
    """The list of all sums of independent vectors, nought among them."""
    sums = [0]
    for vector in vectors:
        sums = sums + [vector ^ other for other in sums]
    return sums
