"""The builtins of atoms, their parts and their signs."""

from hornmill.characters import character_of, characters_in, codes_in, demand_code, demand_short
from hornmill.faults import Fault, demand_bound, demand_kind, demand_not_negative
from hornmill.lists import listed
from hornmill.rows import FAILED, next_of, row_of
from hornmill.signs import DIGITS
from hornmill.terms import is_variable

MOST_DIGITS = 300


def _atom_length(asked):
    atom, many = asked.terms
    demand_bound(atom)
    demand_kind("atom", atom)
    demand_kind("integer", many)
    demand_not_negative(many)
    return row_of([(many, len(atom))])


def _atom_chars(asked):
    atom, parts = asked.terms
    demand_kind("atom", atom)
    if not is_variable(atom):
        return row_of([(parts, listed(list(atom)))])
    return _atom_row(atom, characters_in(parts))


def _atom_codes(asked):
    atom, parts = asked.terms
    demand_kind("atom", atom)
    if not is_variable(atom):
        return row_of([(parts, listed([ord(sign) for sign in atom]))])
    return _atom_row(atom, codes_in(parts))


def _atom_row(atom, signs):
    """The row that tells the atom of some signs."""
    demand_short(signs)
    return row_of([(atom, "".join(signs))])


def _char_code(asked):
    character, code = asked.terms
    if is_variable(code):
        demand_bound(character)
    demand_kind("character", character)
    demand_kind("integer", code)
    if not is_variable(code):
        demand_code(code)
    if is_variable(character):
        return row_of([(character, character_of(code))])
    return row_of([(code, ord(character))])


def _number_codes(asked):
    number, parts = asked.terms
    demand_kind("integer", number)
    if not is_variable(number):
        return row_of([(parts, listed([ord(sign) for sign in str(number)]))])
    text = "".join(codes_in(parts))
    digits = text[1:] if text.startswith("-") else text
    if digits == "" or not all([sign in DIGITS for sign in digits]):
        raise Fault(("domain_error", "number", parts))
    digits = digits.lstrip("0")
    if len(digits) > MOST_DIGITS:
        raise Fault(("resource_error", "integer"))
    value = int("0" + digits)
    return row_of([(number, -value if text.startswith("-") else value)])


def _atom_concat(asked):
    first, last, whole = asked.terms
    for term in asked.terms:
        demand_kind("atom", term)
    if is_variable(first) or is_variable(last):
        demand_bound(whole)
    if isinstance(first, str) and isinstance(last, str):
        demand_short(first + last)
        return row_of([(whole, first + last)])
    if isinstance(first, str):
        return row_of([(last, whole[len(first):])]) if whole.startswith(first) else FAILED
    if isinstance(last, str):
        return row_of([(first, whole[:len(whole) - len(last)])]) if whole.endswith(last) else FAILED
    return row_of([(first, whole[:asked.k]), (last, whole[asked.k:])], next_of(asked.k, len(whole) + 1))


def _sub_atom(asked):
    atom, before, many, behind, part = asked.terms
    demand_bound(atom)
    demand_kind("atom", atom)
    for number in (before, many, behind):
        demand_kind("integer", number)
    demand_kind("atom", part)
    for number in (before, many, behind):
        demand_not_negative(number)
    rows = [row for row in _pieces(atom) if _may_be(asked.terms[1:], row)]
    if rows == []:
        return FAILED
    return row_of(list(zip(asked.terms[1:], rows[asked.k])), next_of(asked.k, len(rows)))


def _pieces(atom):
    """All parts of an atom: how many signs are ahead, in it and behind it, and the part."""
    many = len(atom)
    return [
        (before, size, many - before - size, atom[before:before + size])
        for before in range(many + 1) for size in range(many - before + 1)
    ]


def _may_be(args, row):
    """Tell whether all arguments that are no variables are what a row tells."""
    return all([is_variable(arg) or arg == told for arg, told in zip(args, row)])


TEXT_BUILTINS = {
    ("atom_length", 2): _atom_length, ("atom_chars", 2): _atom_chars, ("atom_codes", 2): _atom_codes,
    ("char_code", 2): _char_code, ("number_codes", 2): _number_codes, ("atom_concat", 3): _atom_concat,
    ("sub_atom", 5): _sub_atom,
}
