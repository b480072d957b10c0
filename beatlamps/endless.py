"""Pictures on endless rows, and what beats make of them."""

from beatlamps.bits import as_bits, as_lot, every_second, multiplied
from beatlamps.checks import contrary, is_integer, need_beats, need_beats_within, need_picture, need_rule
from beatlamps.errors import BadPlace
from beatlamps.rules import shifted

MOST_BEATS_TOLD = 64
MOST_DOUBLINGS = 100


def step_of(rule):
    """(least, bits) of the lamps that the one at the place 0 becomes at a beat: bits is shifted up by the least."""
    # A lamp lights at its place less the offset, so the rule is turned about here.
    least, powers = shifted(contrary(rule))
    return least, as_bits(powers)


def led_along(picture, steps):
    """The sum of the pictures that are this one, moved by each of the steps."""
    on = set()
    for place in picture:
        for step in steps:
            if place + step in on:
                on.discard(place + step)
            else:
                on.add(place + step)
    return tuple(sorted(on))


def after_endless(rule, picture, beats):
    """The places of the lamps that are on behind so many beats."""
    need_rule(rule)
    need_picture(picture)
    need_beats_within(beats, 0, MOST_BEATS_TOLD)
    least, step = step_of(rule)
    whole = 1
    for _ in range(beats):
        whole = multiplied(whole, step)
    return led_along(picture, [beats * least + at for at in as_lot(whole)])


def copied(rule, picture, doublings):
    """The places of the lamps that are on behind 2 ** doublings beats."""
    need_rule(rule)
    need_picture(picture)
    need_beats_within(doublings, 0, MOST_DOUBLINGS)
    return led_along(picture, [-offset * (1 << doublings) for offset in rule])


def has_power(step, beats, at):
    """Whether the polynomial step ** beats has this power, of any size."""
    rest = 1
    while beats:
        if beats & 1:
            rest = multiplied(step, rest)
        # Here rest times a square is asked for this power: its even, or its odd powers alone go into it.
        rest = every_second(rest, at & 1)
        at >>= 1
        beats >>= 1
    return 0 <= at < rest.bit_length() and rest >> at & 1 == 1


def lamp(rule, picture, beats, place):
    """Whether the lamp at this place is on behind so many beats."""
    need_rule(rule)
    need_picture(picture)
    need_beats(beats)
    if not is_integer(place):
        raise BadPlace(place)
    least, step = step_of(rule)
    lights = [first for first in picture if has_power(step, beats, place - first - beats * least)]
    return len(lights) & 1 == 1
