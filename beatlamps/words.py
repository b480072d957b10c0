"""Lines of words, in texts of looks, in journals and at the desk."""

from beatlamps.checks import is_kind, is_rule_of

FIGURES = "0123456789"


def integer_of(word):
    """The integer that the word is, as Python writes it; None if it is none."""
    figures = word[1:] if word.startswith("-") else word
    if figures == "" or not all([figure in FIGURES for figure in figures]):
        return None
    number = int(word)
    return number if str(number) == word else None


def integers_of(words):
    """The tuple of the integers that the words are; None if one of them is none."""
    numbers = [integer_of(word) for word in words]
    if any([number is None for number in numbers]):
        return None
    return tuple(numbers)


def numbers_behind(first, line):
    """The tuple of the integers behind this word; None if the line has no such form."""
    words = line.split(" ")
    if words[0] != first:
        return None
    return integers_of(words[1:])


def line_of(first, numbers):
    """The line of this word and these integers."""
    return " ".join([first] + [str(number) for number in numbers])


def line_at(lines, at):
    """The line at this place; behind the last one a line without signs, which can stand nowhere."""
    return lines[at] if at < len(lines) else ""


def word_behind(first, line):
    """The only word behind this one; None if the line has no such form."""
    words = line.split(" ")
    if len(words) != 2 or words[0] != first:
        return None
    return words[1]


def kind_in(line):
    """The kind that the line tells, None if it tells none."""
    word = word_behind("kind", line)
    return word if is_kind(word) else None


def rule_in(kind, line):
    """The rule, for rows of this kind, that the line tells, None if it tells none."""
    rule = numbers_behind("rule", line)
    return rule if is_rule_of(kind, rule) else None
