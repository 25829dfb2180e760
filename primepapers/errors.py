"""The refusals: one class for each, all straight under PrimeError."""


class PrimeError(ValueError):
    """Any refusal."""


class NoNumber(PrimeError):
    """What is no whole number within the bounds that are asked for."""


class NoPrime(PrimeError):
    """A number that is no prime where one is wanted."""


class NoPair(PrimeError):
    """What is no tuple of two far numbers."""


class NoPaper(PrimeError):
    """What is no paper of the number."""


class NoBases(PrimeError):
    """What is no rising tuple of bases."""


class NoText(PrimeError):
    """What is no text of a paper of the number."""


class NoLine(PrimeError):
    """What is no line that a desk knows."""


class NoName(PrimeError):
    """A name by which nothing is kept."""


class NoDeed(PrimeError):
    """No deed stands that could be undone."""


class TooGreat(PrimeError):
    """A number that is many where most is the greatest that goes."""

    def __init__(self, many, most):
        PrimeError.__init__(self, f"{many} is greater than {most}")
        self.many = many
        self.most = most
