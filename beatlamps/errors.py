"""The errors of all parts; each keeps what it tells as its value."""


class LampError(ValueError):
    """Any error of this package."""

    def __init__(self, value):
        self.value = value


class BadPolynomial(LampError):
    """What was handed in is no polynomial."""


class Nought(LampError):
    """Nought stands where another polynomial is needed."""


class BadBeats(LampError):
    """What was handed in is no such number of beats."""


class TooLong(LampError):
    """A degree, a size or a course is above this bound."""


class NoMeasure(LampError):
    """The polynomial has no power 0, so no measure."""


class BadSize(LampError):
    """What was handed in is no such size."""


class BadRule(LampError):
    """What was handed in is no rule."""


class NotEven(LampError):
    """The rule is not even."""


class BadKind(LampError):
    """What was handed in is no kind."""


class BadRow(LampError):
    """What was handed in is no row."""


class OtherSize(LampError):
    """The row has another size than the one beside it."""


class Garden(LampError):
    """The row comes from none, as these marks show."""


class TooMany(LampError):
    """There are more than so many."""


class Loses(LampError):
    """The rule loses so much."""


class BadNumber(LampError):
    """What was handed in is no such number."""


class BadSides(LampError):
    """What was handed in is no word for sides."""


class BadMiddle(LampError):
    """The middle is neither True nor False."""


class BadFloor(LampError):
    """What was handed in is no floor."""


class Barred(LampError):
    """The floor cannot be made, as these marks show."""


class NotPlain(LampError):
    """The polynomial is not plain, or too great."""


class TooHigh(LampError):
    """The floor is higher than this bound."""


class NotQuiet(LampError):
    """The presses are not quiet."""


class NoSpread(LampError):
    """A floor so high and wide is no spread of the small one."""


class BadPicture(LampError):
    """What was handed in is no picture."""


class BadPlace(LampError):
    """What was handed in is no such place."""


class TooWide(LampError):
    """The rule is wider than this bound."""


class Endless(LampError):
    """The rule goes back endlessly."""


class BadLooks(LampError):
    """The text is no text of looks, from this line on."""


class BadLook(LampError):
    """What was handed in is no look."""


class Held(LampError):
    """There is a look of this beat and place: this one."""


class Full(LampError):
    """There are as many looks as there may be."""


class NoLook(LampError):
    """What was handed in is the number of no look."""


class Quarrel(LampError):
    """The looks of these numbers quarrel."""


class BadOffers(LampError):
    """What was handed in are no offers."""


class BadPlaces(LampError):
    """What was handed in are no places."""


class BadPresses(LampError):
    """What was handed in are no presses."""


class NothingToUndo(LampError):
    """No deed stands."""


class NothingToRedo(LampError):
    """No deed was taken back."""


class NoTrial(LampError):
    """There is no trial to keep."""


class BadJournal(LampError):
    """The text is no journal, from this line on."""


class BadLine(LampError):
    """What was handed in is no line for the desk."""
