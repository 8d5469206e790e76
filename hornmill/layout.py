"""Where the variables of a flat clause stand, and which of them have slots."""

from hornmill.flatforms import is_call, terms_of
from hornmill.terms import is_variable, parts_of


def chunk_rows(goals):
    """The goals cut into chunks, each of which ends behind a call or at the end."""
    rows = [[]]
    for at, goal in enumerate(goals):
        rows[-1].append(goal)
        if is_call(goal) and at + 1 < len(goals):
            rows.append([])
    return rows


class Layout:
    """Tells of each variable of a flat clause, by its number, in the order in which they first stand in it.

    times has how often it stands in the clause, first and last the numbers of the first
    and the last chunk in which it does.
    """

    def __init__(self, flat):
        key, args, goals = flat
        self.rows = chunk_rows(goals)
        self.times = {}
        self.first = {}
        self.last = {}
        for term in args:
            self._stand(term, 0)
        for chunk, row in enumerate(self.rows):
            for goal in row:
                for term in terms_of(goal):
                    self._stand(term, chunk)

    def _stand(self, term, chunk):
        """Note the variables of a term in a chunk."""
        for part in parts_of(term):
            if is_variable(part):
                k = part[0]
                self.times[k] = self.times.get(k, 0) + 1
                self.first.setdefault(k, chunk)
                self.last[k] = chunk

    def lasting(self):
        """The variables that stand in two or more chunks, in the order of their slots."""
        found = [k for k in self.times if self.first[k] < self.last[k]]
        rows = sorted([(-self.last[k], at, k) for at, k in enumerate(found)])
        return [row[2] for row in rows]

    def needed(self, chunk):
        """The number of slots that are needed behind a chunk."""
        return len([k for k in self.times if self.first[k] < self.last[k] and self.last[k] > chunk])
