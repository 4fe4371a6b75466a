"""The refusals of the program."""


class HomeError(ValueError):
    """Any refusal."""


class NoMachine(HomeError):
    """A text that writes no machine: the first row at fault, and the word for its fault."""

    def __init__(self, row, word):
        self.row = row
        self.word = word


class NoWord(HomeError):
    """A text that writes no word of the machine."""


class NoSheet(HomeError):
    """A text that is no sheet: the row at fault."""

    def __init__(self, row):
        self.row = row
