"""The refusals of the program, one class for each."""


class LayError(ValueError):
    """Any refusal."""


class NoRule(LayError):
    """What was handed in is no rule, or none of the kind that is asked for; word says in what."""

    def __init__(self, word):
        LayError.__init__(self, word)
        self.word = word


class NoWorld(LayError):
    """What was handed in is no world; point is the number of the first point that isn't so."""

    def __init__(self, point):
        LayError.__init__(self, point)
        self.point = point


class BadText(LayError):
    """A text can't be read; row is the number of the first row by which it can't."""

    def __init__(self, row):
        LayError.__init__(self, row)
        self.row = row


class NoLaying(LayError):
    """Two points can't be laid together: one is there already, the other was to come."""

    def __init__(self, one, other):
        LayError.__init__(self, one, other)
        self.one = one
        self.other = other


class NoShare(LayError):
    """Pairs of points by which no part is shared."""

    def __init__(self):
        LayError.__init__(self)


class NoWish(LayError):
    """What was handed in is no wish that may stand over grown points."""

    def __init__(self):
        LayError.__init__(self)


class NoSentence(LayError):
    """What was handed in is no sentence; row is the number of the first row that isn't so."""

    def __init__(self, row):
        LayError.__init__(self, row)
        self.row = row


class NoRow(LayError):
    """What was handed in is no row that a desk is asked with."""

    def __init__(self):
        LayError.__init__(self)
