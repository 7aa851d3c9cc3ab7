"""The errors of the package.

Their messages do not show the values, which may be large: the attributes do.
"""


class SamplerError(ValueError):
    """Stands above the errors of wrong values."""


class InvalidSpace(SamplerError):
    """The value is not a space."""

    def __init__(self, value):
        super().__init__("the value is not a space")
        self.value = value


class InvalidQuery(SamplerError):
    """The value is not a query of the space."""

    def __init__(self, value):
        super().__init__("the value is not a query of the space")
        self.value = value


class InvalidObservation(SamplerError):
    """There is no observation with this index."""

    def __init__(self, index):
        super().__init__("there is no observation with this index")
        self.index = index


class NoMatch(SamplerError):
    """No object matches the observations."""

    def __init__(self, observations):
        super().__init__("no object matches the observations")
        self.observations = observations


class InvalidSeed(SamplerError):
    """The seed is not an integer from 0 to bound - 1."""

    def __init__(self, bound):
        super().__init__("the seed is not an integer from 0 to bound - 1")
        self.bound = bound


class InvalidUsers(SamplerError):
    """The value is not a tuple of users."""

    def __init__(self, value):
        super().__init__("the value is not a tuple of users")
        self.value = value


class TooManyAnswers(SamplerError):
    """There are more answers than the limit."""

    def __init__(self, limit):
        super().__init__("there are more answers than the limit")
        self.limit = limit


class InvalidAction(SamplerError):
    """The value is not an action."""

    def __init__(self, value):
        super().__init__("the value is not an action")
        self.value = value


class InvalidLine(SamplerError):
    """The console cannot execute the line."""

    def __init__(self, line):
        super().__init__("the console cannot execute the line")
        self.line = line


class ParseError(SamplerError):
    """A text cannot be read; the message says why."""

    def __init__(self, message):
        super().__init__(message)
        self.message = message


class InvalidRewind(IndexError):
    """The log has no such length to go back to."""

    def __init__(self, length):
        super().__init__("the log has no such length to go back to")
        self.length = length


class UnknownUser(KeyError):
    """The name is not one of the users."""

    def __init__(self, name):
        super().__init__("the name is not one of the users")
        self.name = name
