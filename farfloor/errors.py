"""The refusals of the program."""


class FloorError(ValueError):
    pass


class Thin(FloorError):
    pass


class NoWord(FloorError):
    pass


class NoColour(FloorError):
    pass


class BadText(FloorError):
    def __init__(self, row):
        FloorError.__init__(self, f"row {row} of the text cannot be read")
        self.row = row
