"""What a machine comes back to: places in code, frames, choice points."""


class Spot:
    """A place in code to go on at: an instruction of a clause, or a word with the clause None.

    kept is the number of slots that are kept there of the frame that is present then.
    """

    def __init__(self, word, clause, line, kept):
        self.word = word
        self.clause = clause
        self.line = line
        self.kept = kept


class Frame:
    """A frame: what made it, its place on the stack, the frame that it keeps, and the continuation."""

    def __init__(self, word, base, before, back):
        self.word = word
        self.base = base
        self.before = before
        self.back = back


class Point:
    """A choice point.

    word is "clauses", "builtin", "catch" or "findall", key that of what was called, and
    ways the alternatives: clauses, or what is handed in for the next row of a builtin.
    results are those of a findall so far.
    """

    def __init__(self, word, key, ways, held, frame, back):
        self.word = word
        self.key = key
        self.ways = ways
        self.held = held
        self.frame = frame
        self.back = back
        self.results = []
        self.level = 0
        self.trail_length = 0
        self.heap_length = 0
        self.top_then = 0

    def told(self):
        """The choice point as machines tell it."""
        what = self.word if self.word in ("catch", "findall") else self.key
        base = None if self.frame is None else self.frame.base
        lengths = (self.trail_length, self.heap_length, self.top_then)
        return (what, len(self.ways), dict(self.held), base, self.level, *lengths)
