"""What several tests need: odd values, terms by chance, and slow ways to the same answers.

The slow ways follow DOC.md word by word and share no code with the package.
"""

import random

from hornmill import errors

PERCENT = chr(37)


class Unlike:
    """An object of a class that hornmill does not know."""


def odd_values():
    """Objects of many types, none of which is a term, pairs, bindings, a text or a table."""
    return [
        None, True, False, 1.5, float("nan"), 2j, b"a", bytearray(b"a"), memoryview(b"a"),
        {}, {"a": 1}, {(0,): "a"}, set(), {1}, frozenset([1]), range(3), slice(1),
        object(), int, tuple, len, Unlike(), Ellipsis, NotImplemented, iter([]), (x for x in ()),
        lambda: 1, errors, errors.HornError("x"), errors.BadTerm("a"), ValueError(),
    ]


def odd_terms():
    """Values that are no terms, each wrong at some place."""
    return odd_values() + [
        [], ["a"], [(0,)], [("f", "a")], 10 ** 300, -10 ** 300, 10 ** 5000, "a" * 41, PERCENT, "a" + PERCENT,
        "\n", "\t", "\x1f", "\x7f", "\x80", "\xe9", "a\u20ac", "\U0001f600", "\ud800",
        (), ("a",), ("",), (True,), (False,), (-1,), (-10 ** 20,), (1.0,), (None,), ((0,),), ([],), ({},),
        ("f", True), ("f", False), ("f", None), ("f", ["a"]), ("f", []), ("f", {}), ("f", ()), ("f", ("a",)),
        ("f", (True,)), ("f", (-1,)), ("f", ("g", (0,), ("h", False))), ("f", 10 ** 300), ("f", "a" * 41),
        ("f", PERCENT), (PERCENT, "a"), ("a" * 41, "a"), ("\n", "a"), (True, "a"), (1, "a"), (0, "a"), (1, 2),
        ((0,), "a"), (("f", "a"), "a"), (None, "a"), ([], "a"), (b"f", "a"),
        ("f",) + ("a",) * 9, ("f",) + ("a",) * 8 + (True,), ("f",) + ("a",) * 7 + ([],),
    ]


def odd_pairs():
    """Values that are no pairs."""
    return odd_values() + [
        "", "ab", 0, (0,), ("f", "a"), ["a"], [()], [("a",)], [("a", "b", "c")], [["a", "b"]], ["ab"],
        [("a", True)], [(True, "a")], [("a", [])], [({}, "a")], [("a", "b"), ("a", PERCENT)], (("a", "b"), None),
        [((True,), "a")], [("a", ("f", False))], [("a", 10 ** 300)], [("a", "b"), [("a", "b")]],
    ]


def odd_bindings():
    """Values that are no bindings."""
    return odd_values() + [
        "", "ab", 0, (0,), ("f", "a"), ["a"], [()], [(0,)], [(0, "a", "b")], [[0, "a"]], [((0,), "a")],
        [(True, "a")], [(False, "a")], [(-1, "a")], [("0", "a")], [(None, "a")], [(1.0, "a")], [([], "a")],
        [(0, True)], [(0, [])], [(0, ("f", True))], [(0, 10 ** 300)], [(0, (True,))],
        [(1, "a"), (0, "a")], [(0, "a"), (2, "b"), (1, "c")], [(0, "a"), (0, "a")], [(1, "a"), (1, "b")],
        ((0, "a"), (0, "a")), [(0, (0,))], [(0, ("f", (0,)))], [(0, (1,)), (1, (0,))],
        [(0, ("f", (1,))), (1, ("g", "a", (2,))), (2, ("h", (0,)))],
        [(0, (3,)), (3, (5,)), (4, "a"), (5, ("f", (6,), (0,)))], [(1, (2,)), (2, (3,)), (3, (2,))],
        [(0, "a"), (1, (1,))], [(0, "a"), None],
    ]


def list_of(items, tail="[]"):
    """The list of some terms."""
    for item in reversed(items):
        tail = (".", item, tail)
    return tail


def tower(depth, top="a"):
    """A term of a depth."""
    for _ in range(depth - 1):
        top = ("f", top)
    return top


def chance(seed):
    return random.Random(seed)


def some_term(rng, depth, numbers, atoms=("a", "b"), names=("f", "g"), most=3):
    """A term by chance."""
    kind = rng.randrange(6) if depth > 1 else rng.randrange(3)
    if kind == 0:
        return (rng.choice(numbers),)
    if kind == 1:
        return rng.choice(atoms)
    if kind == 2:
        return rng.randrange(-2, 3)
    inner = [some_term(rng, depth - 1, numbers, atoms, names, most) for _ in range(rng.randint(1, most))]
    return (rng.choice(names), *inner)


def slow_variables(term):
    if isinstance(term, tuple) and len(term) == 1:
        return [term[0]]
    found = []
    if isinstance(term, tuple):
        for inner in term[1:]:
            found += [k for k in slow_variables(inner) if k not in found]
    return found


def slow_replaced(term, table):
    if isinstance(term, tuple) and len(term) == 1:
        return table.get(term[0], term)
    if isinstance(term, tuple):
        return (term[0],) + tuple(slow_replaced(inner, table) for inner in term[1:])
    return term


def slow_renumbered(term):
    return slow_replaced(term, {k: (at,) for at, k in enumerate(slow_variables(term))})


def slow_resolved(term, table):
    while any(k in table for k in slow_variables(term)):
        term = slow_replaced(term, table)
    return term


def slow_unify(pairs):
    """A dict of bindings, one variable after the other, each put into all others; or None."""
    table = {}
    waiting = list(pairs)
    while waiting:
        one, other = waiting.pop(0)
        one, other = slow_replaced(one, table), slow_replaced(other, table)
        if one == other:
            continue
        if not (isinstance(one, tuple) and len(one) == 1):
            one, other = other, one
        if isinstance(one, tuple) and len(one) == 1:
            if one[0] in slow_variables(other):
                return None
            step = {one[0]: other}
            table = {k: slow_replaced(term, step) for k, term in table.items()}
            table[one[0]] = other
        elif isinstance(one, tuple) and isinstance(other, tuple) and len(one) == len(other) and one[0] == other[0]:
            waiting += list(zip(one[1:], other[1:]))
        else:
            return None
    return table
