"""How terms are read from tokens.

What surrounds the term that is read stands in a row of its own, not in calls of
Python: texts may be deeper than these can be.
"""

from hornmill.errors import NoText
from hornmill.operators import ARGUMENT, GREATEST, bound_of, other_operators, prefix_operators
from hornmill.terms import MOST_ARGUMENTS

OPEN = ("(", "[", "{")
CLOSING = {"(": ")", "f(": ")", "[": "]", "|": "]", "{": "}"}


class Parser:
    """Reads terms from a row of tokens, one after the other.

    bound is that of the READ that goes on; found a tuple of the term that it has read
    so far and its priority, or None as long as its first term is due. waiting tells what
    surrounds it, the innermost last, each as a list: a word, the bound of the READ around
    it, and what is needed to go on there: the priority, the name and the left operand of
    an operator; the name and the arguments of a compound; the items of a list.
    """

    def __init__(self, row, table):
        self.pieces = row
        self.token_at = 0
        self.prefix = prefix_operators(table)
        self.others = other_operators(table)
        self.begin()

    def begin(self):
        """Get ready for a term with variables of its own."""
        self.bound = GREATEST
        self.found = None
        self.waiting = []
        self.names = []
        self.numbers = {}

    def is_over(self):
        """Tell whether no token is left."""
        return self.token_at >= len(self.pieces)

    def is_at(self, kind, value):
        """Tell whether the next token is this one."""
        return not self.is_over() and self.pieces[self.token_at][:2] == (kind, value)

    def refuse(self):
        """Raise NoText, as the next token can not stand where it is."""
        raise NoText(self.pieces[self.token_at][2])

    def read(self):
        """READ with 1200: tell whether the tokens go as far; found has the term then."""
        while True:
            if self.found is None:
                if self.is_over():
                    return False
                self._first()
            elif not self._follow():
                if len(self.waiting) == 0:
                    return True
                if not self._leave():
                    return False

    def _enter(self, word, bound, *held):
        """Go on with a READ with a bound, within what a word tells."""
        self.waiting.append([word, self.bound, *held])
        self.bound = bound
        self.found = None

    def _first(self):
        """Take the first token of a first term, and what belongs to it at once."""
        kind, value = self.pieces[self.token_at][:2]
        if kind == "end" or (kind == "mark" and value not in OPEN):
            self.refuse()
        self.token_at += 1
        if kind == "integer":
            self.found = (value, 0)
        elif kind == "variable":
            self.found = ((self._number(value),), 0)
        elif kind == "mark":
            self._opened(value)
        elif self._is_open_at(self.token_at):
            self._compound(value)
        elif kind == "quoted":
            self.found = (value, 0)
        else:
            self._named(value)

    def _number(self, name):
        """The number of the variable with a name."""
        if name == "_" or name not in self.numbers:
            self.numbers[name] = len(self.names)
            self.names.append(name)
        return self.numbers[name]

    def _opened(self, sign):
        """Go on behind one of ( [ { at the beginning of a term."""
        if sign == "(":
            self._enter(sign, GREATEST)
        elif self.is_at("mark", CLOSING[sign]):
            self.token_at += 1
            name = sign + CLOSING[sign]
            if self._is_open_at(self.token_at):
                self._compound(name)
            else:
                self.found = (name, 0)
        elif sign == "[":
            self._enter(sign, ARGUMENT, [])
        else:
            self._enter(sign, GREATEST)

    def _compound(self, name):
        """Go on with the ( behind the name of a compound."""
        self.token_at += 1
        self._enter("f(", ARGUMENT, name, [])

    def _named(self, name):
        """Go on behind a name that is not quoted, where no ( follows without a gap."""
        if name == "-" and self._is_integer_at(self.token_at):
            self.found = (-self.pieces[self.token_at][1], 0)
            self.token_at += 1
        elif self._is_prefix(name):
            priority, kind = self.prefix[name]
            self._enter("prefix", bound_of(priority, kind[1]), priority, name)
        else:
            self.found = (name, 0)

    def _is_prefix(self, name):
        """Tell whether a name that has just been taken is a prefix operator here."""
        return name in self.prefix and self.prefix[name][0] <= self.bound and self._can_begin()

    def _can_begin(self):
        """Tell whether the next token can begin a term."""
        if self.is_over():
            return False
        kind, value = self.pieces[self.token_at][:2]
        if kind == "mark":
            return value in OPEN
        if kind != "name" or value not in self.others or value in self.prefix:
            return kind != "end"
        return self._is_open_at(self.token_at + 1) or (value == "-" and self._is_integer_at(self.token_at + 1))

    def _is_open_at(self, at):
        """Tell whether the token at a place is a ( without a gap ahead of it."""
        return at < len(self.pieces) and self.pieces[at][:2] == ("mark", "(") and not self.pieces[at][3]

    def _is_integer_at(self, at):
        """Tell whether the token at a place is an integer without a gap ahead of it."""
        return at < len(self.pieces) and self.pieces[at][0] == "integer" and not self.pieces[at][3]

    def _follow(self):
        """Take an infix or postfix operator, if it is next and fits; tell whether one was taken."""
        if self.is_over():
            return False
        kind, name = self.pieces[self.token_at][:2]
        if kind not in ("name", "mark") or name not in self.others:
            return False
        priority, shape = self.others[name]
        term, reached = self.found
        if priority > self.bound or reached > bound_of(priority, shape[0]):
            return False
        self.token_at += 1
        if len(shape) == 2:
            self.found = ((name, term), priority)
        else:
            self._enter("infix", bound_of(priority, shape[2]), priority, name, term)
        return True

    def _leave(self):
        """Go on in what surrounds a term that has been read; tell whether the tokens go as far."""
        word, bound, *held = self.waiting[-1]
        term = self.found[0]
        if word in ("prefix", "infix"):
            self._close(bound, (*held[1:], term), held[0])
            return True
        if self.is_over():
            return False
        if word == "f(" and self.is_at("mark", ",") and len(held[1]) < MOST_ARGUMENTS - 1:
            self._keep(held[1])
        elif word == "[" and self.is_at("mark", ","):
            self._keep(held[0])
        elif word == "[" and self.is_at("mark", "|"):
            self._keep(held[0])
            self.waiting[-1][0] = "|"
        elif self.is_at("mark", CLOSING[word]):
            self.token_at += 1
            self._close(bound, _bracketed(word, held, term), 0)
        else:
            self.refuse()
        return True

    def _keep(self, held):
        """Keep a term that has been read, and go on with the one behind the next token."""
        held.append(self.found[0])
        self.token_at += 1
        self.found = None

    def _close(self, bound, term, priority):
        """Leave what surrounded a term, as what it came to has been read."""
        self.waiting.pop()
        self.bound = bound
        self.found = (term, priority)

    def missing(self):
        """What is missing behind tokens that end too early."""
        signs = [CLOSING.get(held[0], "") for held in reversed(self.waiting)]
        return (" a" if self.found is None else "") + "".join(signs)


def _bracketed(word, held, term):
    """What brackets make of the last term in them, and of what they held ahead of it."""
    if word == "(":
        return term
    if word == "{":
        return ("{}", term)
    if word == "f(":
        return (held[0], *held[1], term)
    if word == "|":
        return _list_of(held[0], term)
    return _list_of(held[0] + [term], "[]")


def _list_of(items, tail):
    """The list of items that ends with a tail."""
    for item in reversed(items):
        tail = (".", item, tail)
    return tail
