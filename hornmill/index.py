"""Which clauses of a predicate are tried."""

from hornmill.errors import BadTerm, NoCode, NoFlat, NoKey
from hornmill.flatforms import no_flat
from hornmill.switching import NoSwitches, SwitchReader, SwitchWriter, is_index_key, known_keys, rest_row, row_for
from hornmill.terms import demand_term, is_term, is_variable, numbers_in, replaced
from hornmill.unify import unify


def index_key(term):
    """Return the index key of a term, None for a variable."""
    demand_term(term)
    if is_variable(term):
        return None
    if isinstance(term, tuple):
        return ("fun", term[0], len(term) - 1)
    return ("con", term) if isinstance(term, str) else ("int", term)


def _demand_clauses(clauses):
    """Raise NoFlat for what is no list or tuple of flat clauses of one key."""
    if not isinstance(clauses, (list, tuple)):
        raise NoFlat("form")
    for clause in clauses:
        why = no_flat(clause)
        if why is not None:
            raise NoFlat(why)
    if not all([clause[0] == clauses[0][0] for clause in clauses]):
        raise NoFlat("key")


def _keys_of(clauses):
    """The index keys of clauses; None for those that have no arguments, too."""
    return [index_key(clause[1][0]) if clause[1] != () else None for clause in clauses]


class Index:
    """Tells which clauses of one key are tried."""

    def __init__(self, clauses):
        _demand_clauses(clauses)
        self.clause_keys = _keys_of(clauses)

    def row(self, key):
        """Return the list of the numbers of the clauses that are tried for an index key."""
        if not is_index_key(key):
            raise NoKey(key)
        return row_for(self.clause_keys, key)

    def known(self):
        """Return the list of the index keys of the clauses, each once."""
        return known_keys(self.clause_keys)

    def rest(self):
        """Return the row of all keys that are none of the clauses'."""
        return rest_row(self.clause_keys)


def _demand_arguments(clauses, args):
    """Raise BadTerm for what are no arguments of a call of clauses."""
    if not isinstance(args, (list, tuple)) or not all([is_term(term) for term in args]):
        raise BadTerm(args)
    if len(clauses) > 0 and len(args) != clauses[0][0][1]:
        raise BadTerm(args)


def tried(clauses, args):
    """Return the list of the numbers of the clauses that a call with these arguments tries."""
    _demand_clauses(clauses)
    _demand_arguments(clauses, args)
    return row_for(_keys_of(clauses), index_key(args[0]) if len(args) > 0 else None)


def fitting(clauses, args):
    """Return the list of the numbers of the clauses whose head unifies with these arguments."""
    _demand_clauses(clauses)
    _demand_arguments(clauses, args)
    free = 1 + max(numbers_in(("", "", *args)), default=-1)
    return [at for at, clause in enumerate(clauses) if _fits(clause, args, free)]


def _fits(clause, args, free):
    """Tell whether a head unifies with arguments whose variables have numbers below a free one."""
    head = ("", "", *clause[1])
    apart = replaced(head, {k: (free + k,) for k in numbers_in(head)})
    return unify(list(zip(args, apart[2:]))) is not None


def switches(clauses):
    """Return the index of clauses, written out as a list of instructions."""
    _demand_clauses(clauses)
    return SwitchWriter(_keys_of(clauses)).instructions()


def rows_of(switches):
    """Return the row of None, the list of tuples (key, row), and the row of all other keys."""
    try:
        reader = SwitchReader(switches)
        keys = reader.told_keys()
    except NoSwitches:
        raise NoCode("form")
    if SwitchWriter(keys).instructions() != switches:
        raise NoCode("form")
    return (reader.all_row, reader.rows, list(reader.rest_now))
