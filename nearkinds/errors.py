"""The refusals. Each of them is made with a text."""


class NearError(ValueError):
    """Any refusal."""


class NoTable(NearError):
    """What was handed in as a table is none."""


class NotSteady(NearError):
    """The table has a break."""


class NoPlace(NearError):
    """The table has no such place."""


class NoKind(NearError):
    """There is no such kind."""


class NoMix(NearError):
    """It is no mix of the table."""


class NoNumber(NearError):
    """It is no number that may stand there."""


class NoNumbers(NearError):
    """It is no tuple of as many whole numbers as there are weights."""


class NoWeights(NearError):
    """They are no weights of the table."""


class NotWhole(NearError):
    """The table has not as many weights as kinds."""


class NoLot(NearError):
    """It is no lot of places of the table."""


class NoKinds(NearError):
    """They are no told kinds of the table."""


class NoPaper(NearError):
    """It is no paper of the table and the told kinds."""


class NoParting(NearError):
    """It is no parting of the table's kinds."""


class NoClosed(NearError):
    """They are no closed kinds of the table."""


class TooMany(NearError):
    """There are more places or kinds than may be."""


class NoText(NearError):
    """It is no text of a table."""


class NoLine(NearError):
    """The desk knows no such line."""


class NoDeed(NearError):
    """No deed stands that could be undone."""
