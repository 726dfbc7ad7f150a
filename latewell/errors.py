"""The refusals of the program (point 2)."""


class WellError(ValueError):
    """Any refusal; each class of refusals stands straight under this one."""


class NoComing(WellError):
    """What is no coming of the works' ins."""


class Late(WellError):
    """A coming that a mark or a close has shut out."""


class NoCell(WellError):
    """What names no cell of the works."""


class NoOrder(WellError):
    """A row that the desk does not take."""


class NoText(WellError):
    """A text that is not read: at is the number of its first wrong row, from 0."""

    def __init__(self, at):
        self.at = at


class NoWorks(WellError):
    """A works that is not let by: at is the number of its first wrong row, from 0."""

    def __init__(self, at):
        self.at = at


class NoPaper(WellError):
    """A paper that is not let by: name is that of the first row that is wrong."""

    def __init__(self, name):
        self.name = name
