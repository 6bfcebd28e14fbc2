"""All errors: each keeps, as `value`, what it is raised for."""


class EarError(ValueError):
    """Above all errors of this package."""

    def __init__(self, value):
        self.value = value


class BadRow(EarError):
    """What should be a ROW, or the text of one, is none."""


class BadRows(EarError):
    """What should be a tuple of ROWS is none, or has too many."""


class BadFraction(EarError):
    """What should be a FRACTION is none."""


class BadNumber(EarError):
    """What should be an integer is none, or is out of its bounds."""


class BadMoment(EarError):
    """What should be a moment is no integer."""


class BadEars(EarError):
    """What should be EARS is not."""


class BadWays(EarError):
    """What should be WAYS is not, or does not go with the PLACES."""


class BadMatrix(EarError):
    """What should be a MATRIX is none."""


class BadPicture(EarError):
    """What should be a PICTURE is none."""


class BadRecords(EarError):
    """What should be RECORDS, or their text, is not."""


class BadArray(EarError):
    """A text is not that of an ARRAY."""


class BadName(EarError):
    """What should be a NAME is none."""


class NoEar(EarError):
    """No ear has this NAME."""


class NoWay(EarError):
    """No WAY has this number."""


class ByNothing(EarError):
    """The ROW of nothing stands where it cannot."""


class TooWide(EarError):
    """The spread of a ROW is too great."""


class Taken(EarError):
    """An ear of this NAME stands already."""


class Full(EarError):
    """No further ear can stand."""


class NothingToUndo(EarError):
    """No deed stands that could be taken back."""


class NothingToRedo(EarError):
    """No deed was taken back that could be done again."""


class NoBlock(EarError):
    """No trial is under way."""


class BadJournal(EarError):
    """A text is not that of a journal."""


class BadTask(EarError):
    """A line has no form that is known."""


class BadChoir(EarError):
    """What should be a CHOIR is none."""


class BadWorths(EarError):
    """What should be a tuple of FRACTIONS is none, or has too many."""


class NotGhost(EarError):
    """A PICTURE is heard, where a GHOST should stand."""


class BadLate(EarError):
    """What should be LATE is not."""


class BadLags(EarError):
    """What should be LAGS is not."""


class NoArray(EarError):
    """What should be an ARRAY is none."""


class BadNames(EarError):
    """What should be a tuple of NAMES of ears is none."""


class BadStep(EarError):
    """What should be a step is none."""


class BadColumn(EarError):
    """What should be a COLUMN is none."""


class Unlike(EarError):
    """Two MATRICES do not go together."""


class NotSquare(EarError):
    """A MATRIX has not as many lines as columns."""


class BadPlace(EarError):
    """What should be a PLACE is none."""


class Told(EarError):
    """Something is told at this moment already."""


class NoneReady(EarError):
    """No ear is ready."""


class NoStation(EarError):
    """What should be a Station is none."""
