"""The errors that the program raises on purpose."""


class Refused(ValueError):
    """The base class of all errors that are raised on purpose."""


class Malformed(Refused):
    """A text is not well formed at an index."""

    def __init__(self, at):
        self.at = at


class Unknown(Refused):
    """A name is not declared."""

    def __init__(self, name):
        self.name = name


class Clashing(Refused):
    """A name is declared twice."""

    def __init__(self, name):
        self.name = name


class Oversized(Refused):
    """A limit is exceeded."""

    def __init__(self, limit):
        self.limit = limit


class Misused(Refused):
    """A call is not allowed."""

    def __init__(self, why):
        self.why = why
