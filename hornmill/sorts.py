"""Which keys are those of builtins and of control constructs, and of what sort they are."""

from hornmill.terms import is_integer

SORTS = {
    (",", 2): "control", (";", 2): "control", ("->", 2): "control", ("*->", 2): "control", ("\\+", 1): "control",
    ("once", 1): "control", ("ignore", 1): "control", ("forall", 2): "control", ("true", 0): "control",
    ("!", 0): "control", ("call", 1): "control", ("call", 2): "control", ("call", 3): "control",
    ("call", 4): "control", ("call", 5): "control", ("call", 6): "control", ("call", 7): "control",
    ("call", 8): "control", ("catch", 3): "control", ("throw", 1): "control", ("findall", 3): "control",
    ("findall", 4): "control",
    ("arg", 3): "rows", ("atom_concat", 3): "rows", ("sub_atom", 5): "rows", ("between", 3): "rows",
    ("clause", 2): "rows", ("retract", 1): "rows", (-2, 4): "rows",
    ("fail", 0): "one",
    ("==", 2): "one", ("\\==", 2): "one", ("@<", 2): "one", ("@>", 2): "one", ("@=<", 2): "one", ("@>=", 2): "one",
    ("\\=", 2): "one", ("subsumes_term", 2): "one", ("var", 1): "one", ("nonvar", 1): "one", ("atom", 1): "one",
    ("integer", 1): "one", ("atomic", 1): "one", ("compound", 1): "one", ("callable", 1): "one",
    ("is_list", 1): "one", ("ground", 1): "one",
    ("=", 2): "one", ("compare", 3): "one", ("copy_term", 2): "one", ("term_variables", 2): "one",
    ("functor", 3): "one", ("=..", 2): "one",
    ("atom_length", 2): "one", ("atom_chars", 2): "one", ("atom_codes", 2): "one", ("char_code", 2): "one",
    ("number_codes", 2): "one", ("length", 2): "one", ("msort", 2): "one", ("sort", 2): "one", ("keysort", 2): "one",
    ("is", 2): "one", ("=:=", 2): "one", ("=\\=", 2): "one", ("<", 2): "one", (">", 2): "one", ("=<", 2): "one",
    (">=", 2): "one",
    ("write", 1): "one", ("writeq", 1): "one", ("nl", 0): "one",
    ("asserta", 1): "one", ("assertz", 1): "one", ("retractall", 1): "one", ("abolish", 1): "one",
    (-1, 6): "one", (-3, 4): "one", (-4, 3): "one",
}

LIBRARY_KEYS = (("bagof", 3), ("setof", 3), ("aggregate_all", 3))


def is_key(thing):
    """Tell whether anything is a tuple of an atom or an integer, and an integer.

    What is none may be equal to a key all the same, or have no hash, so it must not be
    looked for in a dict of keys.
    """
    if not isinstance(thing, tuple) or len(thing) != 2:
        return False
    return (isinstance(thing[0], str) or is_integer(thing[0])) and is_integer(thing[1])


def sort_named(key):
    """The sort of a builtin or a control construct, None for anything else."""
    return SORTS.get(key) if is_key(key) else None


def is_fixed(key):
    """Tell whether programs cannot change the predicate of a key."""
    return sort_named(key) is not None or key in LIBRARY_KEYS
