"""The errors of Sealshelf: each stores its attributes as they were given."""


class ShelfError(ValueError):
    """Anything that Sealshelf raises."""


class PaperError(ShelfError):
    """A paper or another value that a checker does not accept."""


class DeedError(ShelfError):
    """Something that cannot be asked or done."""


class TextError(ShelfError):
    """A string that is not the written form of anything due."""


class InvalidPaper(PaperError):
    """A checker found the fault that word names, at the place at (-1 for the whole)."""

    def __init__(self, word, at):
        self.word = word
        self.at = at


class UnknownHolder(DeedError):
    """A value of a group is no holder, or stands in the group twice."""

    def __init__(self, holder):
        self.holder = holder


class InvalidStep(DeedError):
    """A step is barred, by the reason that word names."""

    def __init__(self, step, word):
        self.step = step
        self.word = word


class Locked(DeedError):
    """A thing that has to be open is not."""

    def __init__(self, thing):
        self.thing = thing


class NothingToUndo(DeedError):
    """There is no step to remove; count is how many there are."""

    def __init__(self, count):
        self.count = count


class InvalidMoment(DeedError):
    """A value is not a moment of the history."""

    def __init__(self, moment):
        self.moment = moment


class InvalidText(TextError):
    """In line row, the word number field cannot stand or is missing."""

    def __init__(self, row, field):
        self.row = row
        self.field = field


class InvalidCommand(TextError):
    """A desk was told a string that is no command."""

    def __init__(self, text):
        self.text = text
