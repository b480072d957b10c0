"""What is lost on floors between walls of some height, for all widths."""

from beatlamps.checks import ENDLESS, need_middle, need_number, need_size
from beatlamps.entries import wall_at, wall_parts
from beatlamps.plain import factors
from beatlamps.sharing import first_losing, kept_numbers, lost_by, losing_numbers, most_losing

GREATEST_HEIGHT = 12
MOST_LOST = 12


def need_height(middle, high):
    """BadMiddle, then BadSize unless it is a height whose floors are told of."""
    need_middle(middle)
    need_size(high, 1, GREATEST_HEIGHT)


def floor_parts(middle, high):
    """The parts of what such floors lose, for one more than their width."""
    return wall_parts(factors(wall_at(middle, high)))


def floor_lost_at(middle, high, wide):
    """What a floor so high and so wide loses."""
    need_height(middle, high)
    need_size(wide, 1, ENDLESS)
    return lost_by(floor_parts(middle, high), wide + 1)


def losing_floors(middle, high):
    """The lot of the least integers such that a floor loses something just if one of them divides its width and one."""
    need_height(middle, high)
    return losing_numbers(floor_parts(middle, high))


def first_floor(middle, high, many):
    """The least width with which at least so many are lost, None if there is none."""
    need_height(middle, high)
    need_number(many, 1, MOST_LOST)
    number = first_losing(floor_parts(middle, high), many)
    return None if number is None else number - 1


def most_floor(middle, high):
    """(lost, wide): the most that is lost by any width, and the least width with which it is."""
    need_height(middle, high)
    # Each factor of a wall polynomial stands in others, too, so at each height something is lost.
    most, number = most_losing(floor_parts(middle, high))
    return most, number - 1


def kept_floors(middle, high, bound):
    """With how many of the widths from 1 to bound nothing is lost."""
    need_height(middle, high)
    need_size(bound, 1, ENDLESS)
    # Nothing is lost at the number 1, and no floor belongs to it.
    return kept_numbers(floor_parts(middle, high), bound + 1) - 1
