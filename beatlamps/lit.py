"""How many lamps are on behind beats, if one is on at first, on an endless row."""

from math import gcd

from beatlamps.bits import as_bits, every_second, how_many, multiplied
from beatlamps.checks import need_beats, need_beats_within, need_rule
from beatlamps.errors import TooWide
from beatlamps.rules import shifted

WIDEST = 6
WIDEST_ALIKE = 4
MOST_DOUBLINGS = 9


def need_no_wider(rule, width):
    """TooWide if the greatest offset is farther than this above the least one."""
    if rule[-1] - rule[0] > width:
        raise TooWide(width)


def rule_bits(rule):
    """The rule's polynomial, as an integer."""
    # Where the lamps are does not matter here, nor which way they go, but how many they are.
    return as_bits(shifted(rule)[1])


def lit_halves(step, bits, figure):
    """The parts, but nought, whose lamps behind k beats are together those of bits behind 2 * k + figure."""
    whole = multiplied(step, bits) if figure else bits
    return [half for half in (every_second(whole, 0), every_second(whole, 1)) if half]


def lit(rule, beats):
    """How many lamps are on behind so many beats."""
    need_rule(rule)
    need_no_wider(rule, WIDEST)
    need_beats(beats)
    step = rule_bits(rule)
    counts = {1: 1}
    while beats:
        halved = {}
        for bits, many in counts.items():
            for half in lit_halves(step, bits, beats & 1):
                halved[half] = halved.get(half, 0) + many
        counts = halved
        beats >>= 1
    return sum([many * how_many(bits) for bits, many in counts.items()])


def most_lit(rule, doublings):
    """(number, beats): the most lamps on behind any number of beats below 2 ** doublings, and the least such one."""
    need_rule(rule)
    need_no_wider(rule, WIDEST)
    need_beats_within(doublings, 0, MOST_DOUBLINGS)
    step = rule_bits(rule)
    bits = 1
    number, first = 1, 0
    for beats in range(1 << doublings):
        if how_many(bits) > number:
            number, first = how_many(bits), beats
        bits = multiplied(bits, step)
    return number, first


def pictures_reached(step):
    """The list of all parts that 1 goes into, 1 at first."""
    reached = [1]
    at = 0
    while at < len(reached):
        for half in lit_halves(step, reached[at], 0) + lit_halves(step, reached[at], 1):
            if half not in reached:
                reached = reached + [half]
        at += 1
    return reached


def counting_table(step, start):
    """For each part that is reached how many lamps it has, and where its halves stand, both for even and odd beats."""
    reached = pictures_reached(step)
    table = []
    for bits in reached:
        halves = [[start + reached.index(half) for half in lit_halves(step, bits, figure)] for figure in (0, 1)]
        table.append((how_many(bits), halves))
    return table


def lessened_counts(rows, counts):
    """What is left of the counts by the rows, each (at, row) of which has a number at its place; without divisors."""
    for at, row in rows:
        if counts[at]:
            counts = [row[at] * one - counts[at] * other for one, other in zip(counts, row)]
    divisor = 0
    for one in counts:
        divisor = gcd(divisor, one)
    return [one // divisor for one in counts] if divisor else counts


def first_unlike_lit(step, other):
    """The least number of beats behind which not as many lamps are on, None if there is none."""
    table = counting_table(step, 0)
    middle = len(table)
    table = table + counting_table(other, middle)
    queue = [(0, [lamps for lamps, _ in table])]
    rows = []
    at = 0
    while at < len(queue):
        beats, counts = queue[at]
        at += 1
        if counts[0] != counts[middle]:
            return beats
        left = lessened_counts(rows, counts)
        # Counts that are sums of those behind fewer beats tell nothing new, with whatever figures behind them.
        if any(left):
            rows.append(([place for place, one in enumerate(left) if one][0], left))
            for figure in (0, 1):
                further = [sum([counts[place] for place in halves[figure]]) for _, halves in table]
                queue.append((2 * beats + figure, further))
    return None


def alike_lit(one, other):
    """("always",), or ("beats", beats) with the least number of beats behind which not as many are on by both."""
    need_rule(one)
    need_rule(other)
    need_no_wider(one, WIDEST_ALIKE)
    need_no_wider(other, WIDEST_ALIKE)
    beats = first_unlike_lit(rule_bits(one), rule_bits(other))
    if beats is None:
        return ("always",)
    return "beats", beats
