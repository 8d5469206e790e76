"""Parts of terms by numbers, so that terms with shared parts stay small however great they are."""

from hornmill.terms import arguments_of, head_of, is_variable, parts_of


class Parts:
    """Gives numbers to parts of terms: two parts have the same one just if they are equal.

    rows[n] tells part n: its head, then the numbers of its arguments.
    """

    def __init__(self):
        self.rows = []
        self.places = {}

    def number_of(self, row):
        """The number of the part that a row tells."""
        if row not in self.places:
            self.places[row] = len(self.rows)
            self.rows.append(row)
        return self.places[row]

    def number(self, term, known):
        """The number of a term in which variables stand for the parts that known gives them."""
        done = []
        for part in reversed(parts_of(term)):
            many = len(arguments_of(part))
            inner = done[:-many - 1:-1]
            del done[len(done) - many:]
            if is_variable(part) and part[0] in known:
                done.append(known[part[0]])
            else:
                done.append(self.number_of((head_of(part), *inner)))
        return done[0]

    def resolved(self, bindings, order):
        """A dict from the bound variables to the numbers of what they are resolved to.

        In order each of them stands behind those in its term.
        """
        terms = {k: term for k, term in bindings}
        known = {}
        for k in order:
            known[k] = self.number(terms[k], known)
        return known
