"""Pictures on endless rows that come from pictures."""

from beatlamps.bits import as_bits, as_lot, degree_of, divided, remainder
from beatlamps.checks import is_same_lot, need_picture, need_rule
from beatlamps.endless import step_of
from beatlamps.errors import BadPicture, Endless
from beatlamps.rings import bits_of
from beatlamps.spaces import meet_oddly

FARTHEST = 200


def need_near_picture(value):
    """BadPicture unless it is a picture of one or more lamps that are not too far apart."""
    need_picture(value)
    if value == () or value[-1] - value[0] > FARTHEST:
        raise BadPicture(value)


def picture_bits(picture):
    """The polynomial of the places less the least one, as an integer."""
    return as_bits([place - picture[0] for place in picture])


def picture_from(least, bits):
    """The picture of this polynomial, led along so far."""
    return tuple([least + at for at in as_lot(bits)])


def never_marks(step, rest, many):
    """So many marks that meet each multiple of step evenly, and oddly what leaves this rest."""
    at = degree_of(rest)
    signs = []
    going = remainder(1, step)
    for _ in range(many):
        signs.append("1" if going >> at & 1 else "0")
        going = remainder(going << 1, step)
    return "".join(signs)


def ahead_endless(rule, picture):
    """("picture", other) with the only one from which it comes, or ("never", marks) with what bars it."""
    need_rule(rule)
    need_near_picture(picture)
    least, step = step_of(rule)
    quotient, rest = divided(picture_bits(picture), step)
    if rest == 0:
        return "picture", picture_from(picture[0] - least, quotient)
    return "never", never_marks(step, rest, picture[-1] - picture[0] + 1)


def bars_picture(rule, picture, marks):
    """Whether these are marks for the picture's places that bar it from coming from any."""
    many = picture[-1] - picture[0] + 1
    if not isinstance(marks, str) or len(marks) != many or not all([sign in "01" for sign in marks]):
        return False
    _, step = step_of(rule)
    marked = bits_of(marks)
    if any([meet_oddly(step << at, marked) for at in range(many - degree_of(step))]):
        return False
    return meet_oddly(picture_bits(picture), marked)


def shows_ahead_endless(rule, picture, value):
    """Whether the value is a right result of ahead_endless."""
    word, told = ahead_endless(rule, picture)
    if not isinstance(value, tuple) or len(value) != 2 or value[0] != word:
        return False
    if word == "picture":
        return is_same_lot(value[1], told)
    return bars_picture(rule, picture, value[1])


def always_ahead(rule, picture):
    """(beats, picture): the most beats by which it comes from some picture, and that one."""
    need_rule(rule)
    need_near_picture(picture)
    if len(rule) == 1:
        raise Endless(rule)
    least, step = step_of(rule)
    bits = picture_bits(picture)
    beats = 0
    quotient, rest = divided(bits, step)
    while rest == 0:
        bits = quotient
        beats += 1
        quotient, rest = divided(bits, step)
    return beats, picture_from(picture[0] - beats * least, bits)
