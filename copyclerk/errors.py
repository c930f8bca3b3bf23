"""The refusals: one class for each thing that the package refuses."""


class CopyError(ValueError):
    pass


class BadTable(CopyError):
    def __init__(self, number):
        CopyError.__init__(self, f"row {number} of the table is not good")
        self.number = number


class BadPaper(CopyError):
    def __init__(self, number):
        CopyError.__init__(self, f"row {number} of the text is not good")
        self.number = number


class NoDeed(CopyError):
    pass


class NoRow(CopyError):
    pass
