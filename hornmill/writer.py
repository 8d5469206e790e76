"""Texts of terms."""

from hornmill.operators import ARGUMENT, GREATEST, bound_of, demand_table, other_operators, prefix_operators
from hornmill.signs import CAPITAL, is_name
from hornmill.terms import demand_term, is_variable, renumbered


def written(term, table):
    """Return the text of a term."""
    return "".join(_writer_of(term, table, True).pieces)


def unquoted(term, table):
    """Return the text of a term with all atoms as they are."""
    return "".join(_writer_of(term, table, False).pieces)


def brackets(term, table):
    """Return how many operators' compounds the text of a term has between ( and )."""
    return _writer_of(term, table, True).many


def _writer_of(term, table, with_quotes):
    demand_term(term)
    demand_table(table)
    writer = Writer(table, with_quotes)
    writer.write(renumbered(term))
    return writer


class Writer:
    """Makes the text of a term: its pieces, and how many brackets it needed for operators."""

    def __init__(self, table, with_quotes):
        self.with_quotes = with_quotes
        self.prefix = prefix_operators(table)
        self.others = other_operators(table)
        self.pieces = []
        self.many = 0

    def write(self, term):
        """Put the pieces of a renumbered term behind those that are there.

        What is still to be written waits in a row: a string is a piece; a tuple tells a
        term, its bound, whether it is an operand, and, if it is the left one of an infix
        or postfix operator, the priority of this operator, otherwise 0.
        """
        waiting = [(term, GREATEST, False, 0)]
        while waiting:
            what = waiting.pop()
            if isinstance(what, str):
                self.pieces.append(what)
            else:
                waiting.extend(self._row(what)[::-1])

    def _row(self, what):
        """What is to be written for a term that waits."""
        term, bound, is_operand, rival = what
        if is_variable(term):
            return [_variable_text(term[0])]
        if isinstance(term, int):
            return [str(term)]
        if isinstance(term, str):
            return [self._atom(term, is_operand and (term in self.prefix or term in self.others))]
        if term[0] == "." and len(term) == 3:
            return _list_row(term)
        if term[0] == "{}" and len(term) == 2:
            return ["{", (term[1], GREATEST, False, 0), "}"]
        operator = self._operator_of(term)
        if operator is None:
            return [self._atom(term[0], False), "("] + _with_commas(term[1:]) + [")"]
        return self._operator_row(term, operator, bound, rival)

    def _atom(self, atom, must_quote):
        """An atom, in quotes if it needs them."""
        return _atom_text(atom, must_quote) if self.with_quotes else atom

    def _operator_of(self, term):
        """The priority and the kind of the operator with which a compound is written, or None."""
        name = term[0]
        if len(term) == 2 and name in self.prefix:
            return self.prefix[name]
        if name in self.others and len(self.others[name][1]) == len(term):
            return self.others[name]
        return None

    def _operator_row(self, term, operator, bound, rival):
        """What is to be written for a compound of an operator."""
        priority, kind = operator
        row = _operands_row(term, priority, kind)
        if priority <= bound and not (priority == rival and kind in ("xfy", "fy")):
            return row
        self.many += 1
        return ["("] + row + [")"]


def _operands_row(term, priority, kind):
    """What is to be written for an operator and its operands."""
    name = term[0]
    last = (term[-1], bound_of(priority, kind[-1]), True, 0)
    if kind[0] == "f":
        return [name, " ", last]
    first = (term[1], bound_of(priority, kind[0]), True, priority)
    if len(term) == 2:
        return [first, " ", name]
    return [first, ", " if name == "," else f" {name} ", last]


def _list_row(term):
    """What is to be written for a list."""
    items = []
    while isinstance(term, tuple) and len(term) == 3 and term[0] == ".":
        items.append(term[1])
        term = term[2]
    row = ["["] + _with_commas(items)
    if term != "[]":
        row.extend(["|", (term, ARGUMENT, False, 0)])
    row.append("]")
    return row


def _with_commas(items):
    """What is to be written for arguments or items."""
    row = []
    for item in items:
        row.extend([", ", (item, ARGUMENT, False, 0)])
    return row[1:]


def _variable_text(number):
    """The name with which a variable is written."""
    many, letter = divmod(number, len(CAPITAL))
    return CAPITAL[letter] + (str(many) if many > 0 else "")


def _atom_text(atom, must_quote):
    """An atom as it is, or in quotes if it needs them."""
    if not must_quote and (is_name(atom) or atom == "[]" or atom == "{}"):
        return atom
    inside = atom.replace("\\", "\\\\").replace("'", "''")
    return f"'{inside}'"
