"""The refusals: one class each, all of them straight under TwainError."""


class TwainError(ValueError):
    """Any refusal."""


class NoRatio(TwainError):
    """A bottom of 0, or nought to part by."""


class NoWeb(TwainError):
    """No number of people, or no list of triples of two people and a gain."""


class Twice(TwainError):
    """Two triples of the same two people."""


class NoPerson(TwainError):
    """No number of a person."""


class NoParty(TwainError):
    """Neither one person nor the two of a tie."""


class Alone(TwainError):
    """A person alone where a pair is needed, or one person where two are."""


class Loose(TwainError):
    """A sharing that isn't firm where a firm one is needed."""


class Barred(TwainError):
    """A web without a firm sharing where one with it is needed."""


class NoSides(TwainError):
    """No side of the web."""


class NoText(TwainError):
    """A thing that isn't written as such texts are."""


class NoRow(TwainError):
    """None of a desk's rows."""


class NothingDone(TwainError):
    """No deed is left that could be taken back."""


class NoDeed(TwainError):
    """The thing at that place of the list is no deed there."""

    def __init__(self, at):
        TwainError.__init__(self, f"no deed at place {at}")
        self.at = at
