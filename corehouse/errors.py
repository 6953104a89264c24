"""The refusals of the program."""


class CoreError(ValueError):
    pass


class BadText(CoreError):
    def __init__(self, line):
        CoreError.__init__(self, f"line {line} is refused")
        self.line = line


class NoDeed(BadText):
    pass


class Twice(BadText):
    pass


class NoName(BadText):
    pass


class OutOfBounds(BadText):
    pass


class Taken(BadText):
    pass
