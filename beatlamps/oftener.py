"""Whether what a polynomial has in common with those of all numbers divides another polynomial."""

from beatlamps.bits import as_bits, as_lot, divided
from beatlamps.checks import is_integer, is_polynomial
from beatlamps.plain import factors
from beatlamps.sharing import stands_at, turning_numbers


def oftener_at(parts, other, number):
    """All (factor, times) of what stands in common at the number, and oftener than in other."""
    others = dict(factors(other))
    standing = [(part[0], stands_at(part, number)) for part in parts]
    return [(factor, many) for factor, many in standing if many > others.get(factor, 0)]


def first_oftener(parts, other):
    """The least number at which something stands oftener in common than in other, None if there is none."""
    for number in turning_numbers(parts):
        if oftener_at(parts, other, number):
            return number
    return None


def told_darkens(one, other, parts, less):
    """("always", quotient) of other by one, or ("size", size, factor, times); sizes are numbers less this."""
    number = first_oftener(parts, other)
    if number is None:
        return "always", as_lot(divided(as_bits(other), as_bits(one))[0])
    factor, many = oftener_at(parts, other, number)[0]
    return "size", number - less, factor, many


def shows_told(one, other, parts, less, value):
    """Whether the value is a right result of told_darkens."""
    right = told_darkens(one, other, parts, less)
    if not isinstance(value, tuple) or len(value) != len(right) or value[0] != right[0]:
        return False
    if right[0] == "always":
        return is_polynomial(value[1]) and value[1] == right[1]
    _, size, factor, many = value
    if not is_integer(size) or size != right[1] or not is_polynomial(factor) or not is_integer(many):
        return False
    return (factor, many) in oftener_at(parts, other, size + less)
