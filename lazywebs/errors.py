"""What the program refuses, each kind by a class of its own."""


class LazyError(ValueError):
    """Any refusal."""


class NoProgram(LazyError):
    """It is not built as a program is."""


class Twice(LazyError):
    """A function has the name of one ahead."""

    def __init__(self, name):
        super().__init__(f"a function ahead is called {name}")
        self.name = name


class Hidden(LazyError):
    """A name of a thing or a let's row stood ahead in its function."""

    def __init__(self, name):
        super().__init__(f"the name {name} stood ahead in this function")
        self.name = name


class Stranger(LazyError):
    """A name names nothing that is there."""

    def __init__(self, name):
        super().__init__(f"nothing there is called {name}")
        self.name = name


class More(LazyError):
    """It would take more calls than are allowed."""


class NoRows(LazyError):
    """The rows of a function are not let by."""

    def __init__(self, name):
        super().__init__(f"these are no rows of the function {name}")
        self.name = name


class NoText(LazyError):
    """A word of a text can't stand where it stands, or is missing there."""

    def __init__(self, row, word):
        super().__init__(f"row {row}, word {word} of the text")
        self.row = row
        self.word = word


class NoRow(LazyError):
    """It is no row that a desk is told."""
