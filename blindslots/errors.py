"""The errors that the package raises."""


class SlotError(ValueError):
    """The base class of all errors that the package raises."""


class NoJobs(SlotError):
    """The jobs are not valid; `place` is the index of the job at fault."""

    def __init__(self, place):
        self.place = place


class NoRule(SlotError):
    """The rule is not valid; `place` is the index of the level at fault."""

    def __init__(self, place):
        self.place = place


class NoLengths(SlotError):
    """The lengths are not valid; `place` is the index of the length at fault."""

    def __init__(self, place):
        self.place = place


class NoLog(SlotError):
    """The log is not valid; `place` is the index of the pair at fault."""

    def __init__(self, place):
        self.place = place


class NoMarks(SlotError):
    """The marks are not valid; `place` is the index of the pair at fault."""

    def __init__(self, place):
        self.place = place


class NoNamed(SlotError):
    """The named finishes are not valid; `place` is the index of the pair at fault."""

    def __init__(self, place):
        self.place = place


class NoOrder(SlotError):
    """The order is not valid; `place` is the index of the entry at fault."""

    def __init__(self, place):
        self.place = place


class NoText(SlotError):
    """The text is not a written form; `row` is the index of the line at fault."""

    def __init__(self, row):
        self.row = row


class NoNumber(SlotError):
    """Nothing has this number; `number` keeps it."""

    def __init__(self, number):
        self.number = number


class NoName(SlotError):
    """The name does not fit; `name` keeps it."""

    def __init__(self, name):
        self.name = name


class NoUndo(SlotError):
    """There is no call to take back."""


class NoLine(SlotError):
    """The console does not know a line of this form."""
