"""The exceptions of the package."""


class LevelsError(ValueError):
    """Any failure that the package reports."""


class SchemeError(LevelsError):
    """What was passed as a scheme is none."""


class RollupError(LevelsError):
    """What was passed as a rollup is none of the scheme."""


class CellError(LevelsError):
    """What was passed as a cell is none of the rollup."""


class OrderError(LevelsError):
    """A rollup is not at least as fine as the other one."""


class TableError(LevelsError):
    """What was passed as a table is none of the scheme."""


class SumsError(LevelsError):
    """The amounts are not an integer for each cell of the rollup."""


class StoredError(LevelsError):
    """What was passed as several rollups is no tuple of so many."""


class ReportError(LevelsError):
    """What was passed as a report is none of the scheme."""


class NumberError(LevelsError):
    """A number is not within its limits."""


class AmountError(LevelsError):
    """An amount is not within its limits."""


class CubeError(LevelsError):
    """What was passed as a cube, or as several, is none."""


class MatchError(LevelsError):
    """Two cubes have different schemes."""


class PlaceError(LevelsError):
    """There is nothing at a place that could be removed."""


class TextError(LevelsError):
    """A text is not written as it must be."""


class NothingDone(LevelsError):
    """There is no change that could be taken back."""


class Unknown(LevelsError):
    """Sums are not determined: two tables agree in all that is stored, but not in what is wanted."""

    def __init__(self, one, other):
        # No message is passed on: so Python keeps both arguments, and the error can be copied.
        self.one = one
        self.other = other


class LimitError(LevelsError):
    """There would be more of something than the limit lets."""

    def __init__(self, amount, limit):
        self.amount = amount
        self.limit = limit
