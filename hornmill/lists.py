"""Lists as terms."""

from hornmill.terms import is_variable


def listed(items, tail="[]"):
    """The list of some terms, ending with a tail."""
    for item in reversed(items):
        tail = (".", item, tail)
    return tail


def unlisted(term):
    """The items of what is a list as far as it goes, and the tail where it goes no further."""
    items = []
    while isinstance(term, tuple) and len(term) == 3 and term[0] == ".":
        items.append(term[1])
        term = term[2]
    return items, term


def is_list(term):
    """Tell whether a term is a list."""
    return unlisted(term)[1] == "[]"


def may_be_list(term):
    """Tell whether a term is a list or a partial one."""
    tail = unlisted(term)[1]
    return tail == "[]" or is_variable(tail)
