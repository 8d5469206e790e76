"""Parts of terms that are to be equal, put together in classes."""

from hornmill.rounds import settled
from hornmill.terms import COMPOUND, VARIABLE, folded


class Classes:
    """Classes of parts that are to be equal; at first each part has one of its own.

    rows are those of Parts. A class is named by one of its parts, its root; shown tells
    for a root a part of the class that is no variable, or None.
    """

    def __init__(self, rows):
        self.rows = rows
        self.above = list(range(len(rows)))
        self.weights = [1 for row in rows]
        self.shown = [None if row[0][0] == VARIABLE else at for at, row in enumerate(rows)]

    def root(self, at):
        """The root of the class of a part."""
        above = self.above
        while above[at] != at:
            above[at] = above[above[at]]
            at = above[at]
        return at

    def merge(self, pairs):
        """Put the classes of each pair together, and whatever must be equal then.

        Return False if two parts that are no variables cannot be equal.
        """
        waiting = list(pairs)
        while waiting:
            one, other = waiting.pop()
            first, second = self.root(one), self.root(other)
            if first == second:
                continue
            if self.shown[first] is not None and self.shown[second] is not None:
                left, right = self.rows[self.shown[first]], self.rows[self.shown[second]]
                if left[0] != right[0]:
                    return False
                waiting.extend(list(zip(left[1:], right[1:])))
            self._hang(first, second)
        return True

    def _hang(self, first, second):
        """Make one class of those of two roots; the lesser one goes below the greater one."""
        if self.weights[first] < self.weights[second]:
            first, second = second, first
        self.above[second] = first
        self.weights[first] += self.weights[second]
        if self.shown[first] is None:
            self.shown[first] = self.shown[second]

    def has_round(self):
        """Tell whether a class would have to be within itself."""
        needs = {}
        for at in range(len(self.rows)):
            if self.root(at) == at:
                inner = () if self.shown[at] is None else self.rows[self.shown[at]][1:]
                needs[at] = [self.root(one) for one in inner]
        return settled(needs) is None

    def as_bindings(self):
        """The bindings by which all parts of each class become equal.

        A term has a variable for each inner class that has one. So the terms have no more
        parts in all than those from which the classes came, whatever they share.
        """
        members = {}
        for at, row in enumerate(self.rows):
            if row[0][0] == VARIABLE:
                members.setdefault(self.root(at), []).append(row[0][1])
        names = {}
        for root, numbers in members.items():
            constant = self._constant(root)
            names[root] = (min(numbers),) if constant is None else constant[1]
        found = []
        for root, numbers in members.items():
            for k in numbers:
                if (k,) != names[root]:
                    found.append((k, names[root]))
                elif self.shown[root] is not None:
                    found.append((k, self._term(self.shown[root], names)))
        return sorted(found, key=lambda pair: pair[0])

    def _constant(self, root):
        """The head of the integer or the atom of a class, or None."""
        shown = self.shown[root]
        if shown is None or self.rows[shown][0][0] == COMPOUND:
            return None
        return self.rows[shown][0]

    def _term(self, at, names):
        """The compound that part `at` is, with names for inner classes that have one."""
        row = []
        waiting = [at]
        while waiting:
            one = waiting.pop()
            head = self.rows[one][0]
            if one != at and self.root(one) in names:
                row.append((names[self.root(one)], 0))
            elif head[0] == COMPOUND:
                row.append((head[2], head[1]))
                waiting.extend(self.rows[one][:0:-1])
            else:
                row.append((head[1], 0))
        return folded(row)
