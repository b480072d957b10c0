"""The lines of deeds, in journals and at the desk."""

from beatlamps.words import numbers_behind

DEEDS_OF_ONE = ("beat", "back", "press", "cross")


def deed_in(line):
    """(word, numbers) of the deed that the line tells, None if it has no such form."""
    word = line.split(" ")[0]
    numbers = numbers_behind(word, line)
    if numbers is None:
        return None
    if word in DEEDS_OF_ONE:
        return (word, numbers) if len(numbers) == 1 else None
    if word == "change":
        return (word, numbers) if len(numbers) > 0 else None
    return (word, numbers) if line == "turn" else None


def do_on(yard, word, numbers):
    """Does this deed on the yard."""
    if word == "beat":
        yard.beat(numbers[0])
    elif word == "back":
        yard.back(numbers[0])
    elif word == "press":
        yard.press(numbers[0])
    elif word == "cross":
        yard.cross(numbers[0])
    elif word == "change":
        yard.change(numbers)
    else:
        yard.turn()
