"""The builtins of arithmetic."""

from hornmill.faults import Fault
from hornmill.reckon import reckoned
from hornmill.rows import passed, row_of


def value_of(term):
    """The integer that a term stands for; throw the error that is met."""
    word, result = reckoned(term)
    if word == "error":
        raise Fault(result)
    return result


def _is(asked):
    result, term = asked.terms
    return row_of([(result, value_of(term))])


def _values(asked):
    """The values of both arguments, the first one's errors first."""
    one, other = asked.terms
    return value_of(one), value_of(other)


def _is_equal(asked):
    one, other = _values(asked)
    return passed(one == other)


def _is_unlike(asked):
    one, other = _values(asked)
    return passed(one != other)


def _is_less(asked):
    one, other = _values(asked)
    return passed(one < other)


def _is_greater(asked):
    one, other = _values(asked)
    return passed(one > other)


def _is_at_most(asked):
    one, other = _values(asked)
    return passed(one <= other)


def _is_at_least(asked):
    one, other = _values(asked)
    return passed(one >= other)


NUMBER_BUILTINS = {
    ("is", 2): _is, ("=:=", 2): _is_equal, ("=\\=", 2): _is_unlike, ("<", 2): _is_less, (">", 2): _is_greater,
    ("=<", 2): _is_at_most, (">=", 2): _is_at_least,
}
