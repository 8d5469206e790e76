"""The errors of hornmill, each with the fields that it is created with."""


class HornError(ValueError):
    """Something that was handed to hornmill is not what it should be."""


class BadTerm(HornError):
    """What was passed is no term."""

    def __init__(self, term):
        HornError.__init__(self, "no term")
        self.term = term


class BadPairs(HornError):
    """What was passed are no pairs of terms."""

    def __init__(self, pairs):
        HornError.__init__(self, "no pairs of terms")
        self.pairs = pairs


class BadBindings(HornError):
    """What was passed are no bindings."""

    def __init__(self, bindings):
        HornError.__init__(self, "no bindings")
        self.bindings = bindings


class BadAddress(HornError):
    """What was passed is no address of a place that fits."""

    def __init__(self, address):
        HornError.__init__(self, "no address that fits")
        self.address = address


class BadCell(HornError):
    """What was passed is no cell."""

    def __init__(self, cell):
        HornError.__init__(self, "no cell")
        self.cell = cell


class BadValue(HornError):
    """A value is not of its kind; why tells which one."""

    def __init__(self, why):
        HornError.__init__(self, f"not of its kind: {why}")
        self.why = why


class BadGoal(HornError):
    """What was passed is no goal."""

    def __init__(self, goal):
        HornError.__init__(self, "no goal")
        self.goal = goal


class NoClause(HornError):
    """A term is no clause; why tells which part of it is wrong."""

    def __init__(self, why):
        HornError.__init__(self, f"no clause: {why}")
        self.why = why


class NoFlat(HornError):
    """What was passed is no flat clause."""

    def __init__(self, why):
        HornError.__init__(self, f"no flat clause: {why}")
        self.why = why


class NoCode(HornError):
    """What was passed is no code that fits."""

    def __init__(self, why):
        HornError.__init__(self, f"no code that fits: {why}")
        self.why = why


class NoKey(HornError):
    """What was passed is no index key."""

    def __init__(self, key):
        HornError.__init__(self, "no index key")
        self.key = key


class NoText(HornError):
    """A text cannot be read; why is the place of the first token that is wrong."""

    def __init__(self, why):
        HornError.__init__(self, f"no text that can be read: {why}")
        self.why = why


class NoTable(HornError):
    """A table of operators is none; why is the index of the first item that is wrong."""

    def __init__(self, why):
        HornError.__init__(self, f"no table of operators: {why}")
        self.why = why


class NoOperator(HornError):
    """What was passed makes no operator; why tells which part of it is wrong."""

    def __init__(self, why):
        HornError.__init__(self, f"no operator: {why}")
        self.why = why


class BadClause(HornError):
    """A clause cannot be added to a world; index tells which one, why what is wrong."""

    def __init__(self, index, why):
        HornError.__init__(self, f"no clause to add: {index}, {why}")
        self.index = index
        self.why = why
