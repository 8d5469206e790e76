"""What several tests need: odd values, terms by chance, and slow ways to the same answers.

The slow ways follow DOC.md word by word and share no code with the package.
"""

import random

from hornmill import errors
from hornmill.signs import tokens

PERCENT = chr(37)


class Unlike:
    """An object of a class that hornmill does not know."""


def odd_values():
    """Objects of many types, none of which is a term, pairs, bindings, a text or a table."""
    return [
        None, True, False, 1.5, float("nan"), 2j, b"a", bytearray(b"a"), memoryview(b"a"),
        {}, {"a": 1}, {(0,): "a"}, set(), {1}, frozenset([1]), range(3), slice(1),
        object(), int, tuple, len, Unlike(), Ellipsis, NotImplemented, iter([]), (x for x in ()),
        lambda: 1, errors, errors.HornError("x"), errors.BadTerm("a"), errors.NoText(3), ValueError(),
    ]


def odd_terms():
    """Values that are no terms, each wrong at some place."""
    return odd_values() + [
        [], ["a"], [(0,)], [("f", "a")], 10 ** 300, -10 ** 300, 10 ** 5000, "a" * 41, PERCENT, "a" + PERCENT,
        "\n", "\t", "\x1f", "\x7f", "\x80", "\xe9", "a\u20ac", "\U0001f600", "\ud800",
        (), ("a",), ("",), (True,), (False,), (-1,), (-10 ** 20,), (1.0,), (None,), ((0,),), ([],), ({},),
        ("f", True), ("f", False), ("f", None), ("f", ["a"]), ("f", []), ("f", {}), ("f", ()), ("f", ("a",)),
        ("f", (True,)), ("f", (-1,)), ("f", ("g", (0,), ("h", False))), ("f", 10 ** 300), ("f", "a" * 41),
        ("f", PERCENT), (PERCENT, "a"), ("a" * 41, "a"), ("\n", "a"), (True, "a"), (1, "a"), (0, "a"), (1, 2),
        ((0,), "a"), (("f", "a"), "a"), (None, "a"), ([], "a"), (b"f", "a"),
        ("f",) + ("a",) * 9, ("f",) + ("a",) * 8 + (True,), ("f",) + ("a",) * 7 + ([],),
    ]


def odd_pairs():
    """Values that are no pairs."""
    return odd_values() + [
        "", "ab", 0, (0,), ("f", "a"), ["a"], [()], [("a",)], [("a", "b", "c")], [["a", "b"]], ["ab"],
        [("a", True)], [(True, "a")], [("a", [])], [({}, "a")], [("a", "b"), ("a", PERCENT)], (("a", "b"), None),
        [((True,), "a")], [("a", ("f", False))], [("a", 10 ** 300)], [("a", "b"), [("a", "b")]],
    ]


def odd_bindings():
    """Values that are no bindings."""
    return odd_values() + [
        "", "ab", 0, (0,), ("f", "a"), ["a"], [()], [(0,)], [(0, "a", "b")], [[0, "a"]], [((0,), "a")],
        [(True, "a")], [(False, "a")], [(-1, "a")], [("0", "a")], [(None, "a")], [(1.0, "a")], [([], "a")],
        [(0, True)], [(0, [])], [(0, ("f", True))], [(0, 10 ** 300)], [(0, (True,))],
        [(1, "a"), (0, "a")], [(0, "a"), (2, "b"), (1, "c")], [(0, "a"), (0, "a")], [(1, "a"), (1, "b")],
        ((0, "a"), (0, "a")), [(0, (0,))], [(0, ("f", (0,)))], [(0, (1,)), (1, (0,))],
        [(0, ("f", (1,))), (1, ("g", "a", (2,))), (2, ("h", (0,)))],
        [(0, (3,)), (3, (5,)), (4, "a"), (5, ("f", (6,), (0,)))], [(1, (2,)), (2, (3,)), (3, (2,))],
        [(0, "a"), (1, (1,))], [(0, "a"), None],
    ]


def list_of(items, tail="[]"):
    """The list of some terms."""
    for item in reversed(items):
        tail = (".", item, tail)
    return tail


def tower(depth, top="a"):
    """A term of a depth."""
    for _ in range(depth - 1):
        top = ("f", top)
    return top


def chance(seed):
    return random.Random(seed)


def some_term(rng, depth, numbers, atoms=("a", "b"), names=("f", "g"), most=3):
    """A term by chance."""
    kind = rng.randrange(6) if depth > 1 else rng.randrange(3)
    if kind == 0:
        return (rng.choice(numbers),)
    if kind == 1:
        return rng.choice(atoms)
    if kind == 2:
        return rng.randrange(-2, 3)
    inner = [some_term(rng, depth - 1, numbers, atoms, names, most) for _ in range(rng.randint(1, most))]
    return (rng.choice(names), *inner)


def slow_variables(term):
    if isinstance(term, tuple) and len(term) == 1:
        return [term[0]]
    found = []
    if isinstance(term, tuple):
        for inner in term[1:]:
            found += [k for k in slow_variables(inner) if k not in found]
    return found


def slow_replaced(term, table):
    if isinstance(term, tuple) and len(term) == 1:
        return table.get(term[0], term)
    if isinstance(term, tuple):
        return (term[0],) + tuple(slow_replaced(inner, table) for inner in term[1:])
    return term


def slow_renumbered(term):
    return slow_replaced(term, {k: (at,) for at, k in enumerate(slow_variables(term))})


def slow_resolved(term, table):
    while any(k in table for k in slow_variables(term)):
        term = slow_replaced(term, table)
    return term


def slow_unify(pairs):
    """A dict of bindings, one variable after the other, each put into all others; or None."""
    table = {}
    waiting = list(pairs)
    while waiting:
        one, other = waiting.pop(0)
        one, other = slow_replaced(one, table), slow_replaced(other, table)
        if one == other:
            continue
        if not (isinstance(one, tuple) and len(one) == 1):
            one, other = other, one
        if isinstance(one, tuple) and len(one) == 1:
            if one[0] in slow_variables(other):
                return None
            step = {one[0]: other}
            table = {k: slow_replaced(term, step) for k, term in table.items()}
            table[one[0]] = other
        elif isinstance(one, tuple) and isinstance(other, tuple) and len(one) == len(other) and one[0] == other[0]:
            waiting += list(zip(one[1:], other[1:]))
        else:
            return None
    return table


class Wrong(Exception):
    """A token that can not stand where it is."""


class Short(Exception):
    """A text that ends too early."""


class SlowReader:
    """[2.5], function by function."""

    def __init__(self, text, table):
        self.text = text
        self.row = tokens(text)
        self.at = 0
        self.pre = {name: (p, k) for p, k, name in table if k in ("fx", "fy")}
        self.post = {name: (p, k) for p, k, name in table if k not in ("fx", "fy")}
        self.post[","] = (1000, "xfy")
        self.names = []

    def token(self, ahead=0):
        at = self.at + ahead
        return self.row[at] if at < len(self.row) else (None, None, len(self.text), True)

    def stop(self):
        if self.token()[0] is None:
            raise Short(self.token()[2])
        raise Wrong(self.token()[2])

    def mark(self, sign, ahead=0):
        return self.token(ahead)[:2] == ("mark", sign)

    def need(self, sign):
        if not self.mark(sign):
            self.stop()
        self.at += 1

    def whole(self):
        term = self.read(1200)
        if self.token()[0] == "end":
            self.at += 1
        if self.token()[0] is not None:
            raise Wrong(self.token()[2])
        return term, self.names

    def read(self, bound):
        term, priority = self.first(bound)
        while True:
            kind, name = self.token()[:2]
            if not (kind == "name" or (kind, name) == ("mark", ",")) or name not in self.post:
                return term
            r, k = self.post[name]
            left = r if k in ("yfx", "yf") else r - 1
            if r > bound or priority > left:
                return term
            self.at += 1
            if k in ("xf", "yf"):
                term = (name, term)
            else:
                term = (name, term, self.read(r if k == "xfy" else r - 1))
            priority = r

    def several(self, most):
        found = [self.read(999)]
        while self.mark(",") and len(found) < most:
            self.at += 1
            found.append(self.read(999))
        return found

    def first(self, bound):
        kind, value = self.token()[:2]
        if kind is None or kind == "end":
            self.stop()
        if kind == "integer":
            self.at += 1
            return value, 0
        if kind == "variable":
            self.at += 1
            if value == "_" or value not in self.names:
                self.names.append(value)
                return (len(self.names) - 1,), 0
            return (self.names.index(value),), 0
        if kind == "mark":
            return self.bracket(value), 0
        self.at += 1
        return self.name(kind, value, bound)

    def bracket(self, sign):
        if sign not in "([{":
            self.stop()
        self.at += 1
        if sign == "(":
            term = self.read(1200)
            self.need(")")
            return term
        close = {"[": "]", "{": "}"}[sign]
        if self.mark(close):
            self.at += 1
            if self.mark("(") and not self.token()[3]:
                return self.compound(sign + close)
            return sign + close
        if sign == "{":
            term = self.read(1200)
            self.need("}")
            return ("{}", term)
        items = self.several(10 ** 9)
        tail = "[]"
        if self.mark("|"):
            self.at += 1
            tail = self.read(999)
        self.need("]")
        return list_of(items, tail)

    def compound(self, name):
        self.need("(")
        args = self.several(8)
        self.need(")")
        return (name, *args)

    def name(self, kind, name, bound):
        if self.mark("(") and not self.token()[3]:
            return self.compound(name), 0
        if kind == "name" and name == "-" and self.token()[0] == "integer" and not self.token()[3]:
            self.at += 1
            return -self.token(-1)[1], 0
        if kind == "name" and name in self.pre and self.pre[name][0] <= bound and self.can_begin():
            r, k = self.pre[name]
            return (name, self.read(r if k == "fy" else r - 1)), r
        return name, 0

    def can_begin(self):
        kind, value = self.token()[:2]
        if kind in ("integer", "variable", "quoted"):
            return True
        if kind == "mark":
            return value in "([{"
        if kind != "name":
            return False
        if value in self.post and value not in self.pre:
            if self.mark("(", 1) and not self.token(1)[3]:
                return True
            return value == "-" and self.token(1)[0] == "integer" and not self.token(1)[3]
        return True


def slow_read(text, table):
    """("yes", (term, names)), ("wrong", place) or ("short", place)."""
    try:
        return ("yes", SlowReader(text, table).whole())
    except Wrong as error:
        return ("wrong", error.args[0])
    except Short as error:
        return ("short", error.args[0])


def some_table(rng, names):
    """A table by chance."""
    found = []
    for name in names:
        if rng.randrange(2):
            found.append((some_priority(rng), rng.choice(["fx", "fy"]), name))
        if rng.randrange(2):
            found.append((some_priority(rng), rng.choice(["xfx", "xfy", "yfx", "xf", "yf"]), name))
    rng.shuffle(found)
    return found


def some_priority(rng):
    return rng.choice([1, 2, 200, 200, 500, 500, 700, 998, 999, 1000, 1001, 1199, 1200, rng.randint(1, 1200)])
