"""What a polynomial has in common with others, one for each number from 1 on: told for all numbers at once.

A part is (factor, least, often): the plain factor stands in what there is in common at a number just if least divides
that number; it stands there often[k] times, k being how often two divides the number, behind the last k as at that.
"""

from math import lcm

# No factor stands more than twelve times in what is asked about, so what comes by more than these tells nothing new.
DOUBLINGS = 4


def doublings_of(number):
    """How often two divides the number, from 1 on."""
    return (number & -number).bit_length() - 1


def stands_at(part, number):
    """How often the factor of this part stands in what there is in common at the number."""
    _, least, often = part
    if number % least:
        return 0
    return often[min(doublings_of(number), DOUBLINGS)]


def lost_by(parts, number):
    """The degree of what there is in common at the number."""
    return sum([part[0][-1] * stands_at(part, number) for part in parts])


def turning_numbers(parts):
    """An ascending list of numbers: each other one has a divisor among them at which as much is in common."""
    together = [1]
    for _, least, _ in parts:
        together = sorted(set(together + [lcm(number, least) for number in together]))
    return sorted(set([lcm(number, 1 << at) for number in together for at in range(DOUBLINGS + 1)]))


def first_losing(parts, many):
    """The least number at which what is in common has at least this degree, None if there is none."""
    for number in turning_numbers(parts):
        if lost_by(parts, number) >= many:
            return number
    return None


def most_losing(parts):
    """(degree, number): the greatest degree of what is in common, and the least number at which it is."""
    # All the others divide the last one, and so does what is in common there.
    most = lost_by(parts, turning_numbers(parts)[-1])
    return most, first_losing(parts, most)


def first_unlike(parts, others):
    """The least number at which as much is not in common with both, None if there is none."""
    for number in turning_numbers(parts + others):
        if lost_by(parts, number) != lost_by(others, number):
            return number
    return None


def losing_numbers(parts):
    """The lot of the leasts such that something is in common just at their multiples; none divides another one."""
    leasts = sorted(set([least for _, least, _ in parts]))
    return tuple([least for least in leasts if not any([least % by == 0 for by in leasts if by < least])])


def kept_numbers(parts, bound):
    """At how many of the numbers from 1 to bound nothing is in common."""
    # What two of them divide is taken off for both of them, so it is added once again, and so on.
    signed = {1: 1}
    for least in losing_numbers(parts):
        for number, sign in list(signed.items()):
            both = lcm(number, least)
            signed[both] = signed.get(both, 0) - sign
    return sum([sign * (bound // number) for number, sign in signed.items()])
