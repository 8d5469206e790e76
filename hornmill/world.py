"""Worlds: programs that queries can change, and the output that they write."""

from hornmill.bodies import key_of, stored
from hornmill.collects import library
from hornmill.errors import BadClause, NoClause
from hornmill.flat import flattened
from hornmill.meaning import Query
from hornmill.program import Coded, Kept, library_clause
from hornmill.sorts import is_fixed, is_key


class World:
    """A program, its output, and a counter for the new predicates of its clauses.

    kept has for each known predicate its clauses that live, numbered has each of these by
    its number, and made the clauses of new predicates.
    """

    def __init__(self, clauses=()):
        self.kept = {}
        self.numbered = {}
        self.made = {}
        self.counter = 0
        self.many = 0
        self.pieces = []
        self.library = {flat[0]: library_clause(flat) for flat in library()}
        if not isinstance(clauses, (list, tuple)):
            raise BadClause(-1, "list")
        for at, clause in enumerate(clauses):
            self._take(at, clause)

    def _take(self, at, clause):
        """Add a clause of the program."""
        try:
            term = stored(clause)
        except NoClause as error:
            raise BadClause(at, error.why)
        if is_fixed(key_of(term[1])):
            raise BadClause(at, "builtin")
        self.put_clause(term, False)

    def query(self, goal, *, limit=2000):
        """Return a query for a goal."""
        return Query(self, goal, limit)

    def clauses(self, key):
        """Return the list of the clauses of a predicate, as stored."""
        return [one.clause for one in self.kept.get(key, [])] if is_key(key) else []

    def flat(self, key):
        """Return the list of the flat clauses of a predicate, also of a new one."""
        if not is_key(key):
            return []
        if key in self.made:
            return [one.source for one in self.made[key]]
        return [one.coded.source for one in self.kept.get(key, [])]

    def known(self):
        """Return the list of the keys of the known predicates."""
        return sorted(list(self.kept))

    def output(self):
        """Return what all queries have written so far."""
        return "".join(self.pieces)

    def put_text(self, text):
        """Write to the output."""
        self.pieces.append(text)

    def put_clause(self, clause, is_first):
        """Add a stored clause ahead of all of its predicate, or behind them."""
        flats = flattened(clause, self.counter)
        for flat in flats[1:]:
            self.made.setdefault(flat[0], []).append(Coded(flat))
        self.counter += len({flat[0] for flat in flats[1:]})
        one = Kept(self.many, clause, flats[0])
        self.many += 1
        self.numbered[one.serial] = one
        row = self.kept.setdefault(flats[0][0], [])
        if is_first:
            row.insert(0, one)
        else:
            row.append(one)

    def make_known(self, key):
        """Make a predicate known, even if it has no clauses."""
        self.kept.setdefault(key, [])

    def kept_of(self, key):
        """The clauses of a predicate that live, None if it is not known."""
        return self.kept.get(key)

    def of_library(self, key):
        """The clause of a predicate of the library, None for any other key."""
        return self.library.get(key)

    def made_of(self, key):
        """The clauses of a new predicate."""
        return self.made[key]

    def living(self, key):
        """The numbers of the clauses of a predicate that live."""
        return [one.serial for one in self.kept.get(key, [])]

    def lives(self, number):
        """Tell whether the clause of a number lives."""
        return number in self.numbered

    def clause_of(self, number):
        """The clause of a number, as stored."""
        return self.numbered[number].clause

    def erase(self, number):
        """Erase the clause of a number."""
        one = self.numbered.pop(number)
        self.kept[one.coded.source[0]].remove(one)

    def abolish(self, key):
        """Erase all clauses of a predicate, and make it unknown."""
        for one in self.kept.pop(key, []):
            del self.numbered[one.serial]
