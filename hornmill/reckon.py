"""Arithmetic.

Each operation returns ("value", n), or ("error", formal).
"""

from hornmill.terms import TOO_GREAT, demand_term, is_variable

# A power of 2 with a greater exponent has more than 300 digits, and no integer has so many bits.
MOST_BITS = 1000

NO_DIVISOR = ("error", ("evaluation_error", "zero_divisor"))
TOO_LONG = ("error", ("resource_error", "integer"))


def reckoned(term):
    """Return ("value", n), the integer that a term stands for, or ("error", formal)."""
    demand_term(term)
    values = []
    # Operations wait below their arguments, as tuples (name, number of arguments, True).
    waiting = [(term, 0, False)]
    while waiting:
        what, many, is_ready = waiting.pop()
        if is_ready:
            result = _bounded(_operated(what, values[-many:]))
            del values[-many:]
        elif _is_operation(what):
            waiting.append((what[0], len(what) - 1, True))
            waiting.extend([(inner, 0, False) for inner in what[:0:-1]])
            continue
        else:
            result = _leaf(what)
        if result[0] == "error":
            return result
        values.append(result[1])
    return ("value", values[0])


def _is_operation(term):
    if not isinstance(term, tuple):
        return False
    return (len(term) == 2 and term[0] in OF_ONE) or (len(term) == 3 and term[0] in OF_TWO)


def _leaf(term):
    """What stands for a term that is no operation."""
    if is_variable(term):
        return ("error", "instantiation_error")
    if isinstance(term, int):
        return ("value", term)
    name, arity = (term, 0) if isinstance(term, str) else (term[0], len(term) - 1)
    return ("error", ("type_error", "evaluable", ("/", name, arity)))


def _operated(name, values):
    """The result of an operation."""
    if len(values) == 1:
        of_one = OF_ONE[name]
        return of_one(values[0])
    of_two = OF_TWO[name]
    return of_two(values[0], values[1])


def _bounded(result):
    """A result, or the error for a value that has too many digits."""
    if result[0] == "value" and not -TOO_GREAT < result[1] < TOO_GREAT:
        return TOO_LONG
    return result


def _same(x):
    return ("value", x)


def _opposite(x):
    return ("value", -x)


def _absolute(x):
    return ("value", abs(x))


def _sign(x):
    return ("value", (x > 0) - (x < 0))


def _complement(x):
    return ("value", -x - 1)


def _highest_bit(x):
    if x < 1:
        return ("error", ("type_error", "not_less_than_one", x))
    return ("value", x.bit_length() - 1)


def _sum(x, y):
    return ("value", x + y)


def _difference(x, y):
    return ("value", x - y)


def _product(x, y):
    return ("value", x * y)


def _least(x, y):
    return ("value", min(x, y))


def _greatest(x, y):
    return ("value", max(x, y))


def _common_divisor(x, y):
    while y != 0:
        x, y = y, x % y
    return ("value", abs(x))


def _both_bits(x, y):
    return ("value", x & y)


def _any_bits(x, y):
    return ("value", x | y)


def _unlike_bits(x, y):
    return ("value", x ^ y)


def _towards_zero(x, y):
    if y == 0:
        return NO_DIVISOR
    quotient = abs(x) // abs(y)
    return ("value", quotient if (x < 0) == (y < 0) else -quotient)


def _downwards(x, y):
    return NO_DIVISOR if y == 0 else ("value", x // y)


def _modulus(x, y):
    return NO_DIVISOR if y == 0 else ("value", x - y * (x // y))


def _remainder(x, y):
    quotient = _towards_zero(x, y)
    return quotient if quotient[0] == "error" else ("value", x - y * quotient[1])


def _shift_left(x, y):
    if y < 0:
        return ("error", ("domain_error", "not_less_than_zero", y))
    if x != 0 and y > MOST_BITS:
        return TOO_LONG
    return ("value", x << min(y, MOST_BITS))


def _shift_right(x, y):
    if y < 0:
        return ("error", ("domain_error", "not_less_than_zero", y))
    return ("value", x >> min(y, MOST_BITS))


def _power(x, y):
    if -1 <= x <= 1:
        return _small_power(x, y)
    if y < 0:
        return ("error", ("type_error", "float", x))
    if y > MOST_BITS:
        return TOO_LONG
    value = 1
    for _ in range(y):
        value *= x
        if not -TOO_GREAT < value < TOO_GREAT:
            return TOO_LONG
    return ("value", value)


def _small_power(x, y):
    """The power of -1, 0 or 1."""
    if y == 0:
        return ("value", 1)
    if x == 0:
        return NO_DIVISOR if y < 0 else ("value", 0)
    return ("value", 1 if y % 2 == 0 else x)


OF_ONE = {
    "+": _same, "-": _opposite, "abs": _absolute, "sign": _sign, "\\": _complement, "msb": _highest_bit,
}
OF_TWO = {
    "+": _sum, "-": _difference, "*": _product, "min": _least, "max": _greatest, "gcd": _common_divisor,
    "/\\": _both_bits, "\\/": _any_bits, "xor": _unlike_bits, "//": _towards_zero, "div": _downwards,
    "mod": _modulus, "rem": _remainder, "<<": _shift_left, ">>": _shift_right, "**": _power, "^": _power,
}
