"""Instructions, and the code of a clause."""

from hornmill.errors import NoCode
from hornmill.sorts import is_key
from hornmill.terms import MOST_ARGUMENTS, is_atom, is_integer, is_number, is_term

# The instructions behind which arguments are told, and the last ones.
STRUCTURES = ("take_struct", "give_struct")
LAST_WORDS = ("jump", "return")


def is_predicate(thing):
    """Tell whether anything is a key as instructions and flat clauses have it."""
    if not is_key(thing) or thing[1] < 0:
        return False
    return is_integer(thing[0]) or (is_atom(thing[0]) and thing[1] <= MOST_ARGUMENTS)


def _is_positive(thing):
    """Tell whether anything is the number of a register or a slot, or of arguments that are passed over."""
    return is_integer(thing) and thing >= 1


def _is_place(thing):
    """Tell whether anything is a register or a slot, named by a tuple."""
    return _is_named(thing, ("x", "y"))


def _is_slot(thing):
    return _is_named(thing, ("y",))


def _is_named(thing, words):
    """Tell whether anything is a tuple of one of some words and a number."""
    if not isinstance(thing, tuple) or len(thing) != 2 or not isinstance(thing[0], str):
        return False
    return thing[0] in words and _is_positive(thing[1])


def _is_constant(thing):
    return isinstance(thing, (str, int)) and is_term(thing)


def _is_name(thing):
    return is_atom(thing)


def _is_arity(thing):
    """Tell whether anything is the number of arguments of a compound."""
    return is_integer(thing) and 1 <= thing <= MOST_ARGUMENTS


def _is_many(thing):
    """Tell whether anything is a number of slots."""
    return is_number(thing)


# What stands behind the first word of an instruction.
FORMS = {
    "take_new": (_is_place, _is_positive), "take_old": (_is_place, _is_positive),
    "take_const": (_is_constant, _is_positive), "take_struct": (_is_name, _is_arity, _is_positive),
    "arg_new": (_is_place,), "arg_old": (_is_place,), "arg_local": (_is_place,), "arg_const": (_is_constant,),
    "arg_skip": (_is_positive,),
    "give_new": (_is_place, _is_positive), "give_old": (_is_place, _is_positive),
    "give_unsafe": (_is_slot, _is_positive), "give_const": (_is_constant, _is_positive),
    "give_struct": (_is_name, _is_arity, _is_positive),
    "keep_entry": (_is_place,), "keep_now": (_is_place,), "cut_to": (_is_place,), "soft_cut": (_is_place,),
    "builtin": (is_predicate,), "frame": (_is_many,), "unframe": (), "call": (is_predicate, _is_many),
    "jump": (is_predicate,), "return": (),
}
# At which index an instruction names a place, and at which one a register by its number.
PLACE_AT = {
    "take_new": 1, "take_old": 1, "arg_new": 1, "arg_old": 1, "arg_local": 1, "give_new": 1, "give_old": 1,
    "give_unsafe": 1, "keep_entry": 1, "keep_now": 1, "cut_to": 1, "soft_cut": 1,
}
REGISTER_AT = {
    "take_new": 2, "take_old": 2, "take_const": 2, "take_struct": 3, "give_new": 2, "give_old": 2, "give_unsafe": 2,
    "give_const": 2, "give_struct": 3,
}


def is_instruction(thing):
    """Tell whether anything is an instruction."""
    if not isinstance(thing, tuple) or thing == () or not isinstance(thing[0], str) or thing[0] not in FORMS:
        return False
    checks = FORMS[thing[0]]
    if len(thing) != len(checks) + 1:
        return False
    for check, what in zip(checks, thing[1:]):
        if not check(what):
            return False
    return True


def told_by(instruction):
    """How many arguments of a structure an instruction tells."""
    word = instruction[0]
    if word == "arg_skip":
        return instruction[1]
    return 1 if word.startswith("arg_") else 0


def is_code(thing):
    """Tell whether anything is code."""
    if not isinstance(thing, list) or thing == []:
        return False
    if not all([is_instruction(instruction) for instruction in thing]):
        return False
    missing = 0
    for instruction in thing:
        many = told_by(instruction)
        # Arguments are told just where some are missing, and nothing else is there.
        if many > missing or (many == 0 and missing > 0):
            return False
        missing -= many
        if instruction[0] in STRUCTURES:
            missing = instruction[2]
    return thing[-1][0] in LAST_WORDS and not any([instruction[0] in LAST_WORDS for instruction in thing[:-1]])


def demand_code(code):
    """Raise NoCode for what is no code."""
    if not is_code(code):
        raise NoCode("form")


def slot_in(instruction):
    """The slot that an instruction names, 0 if it names none."""
    return _named_in(instruction, "y")


def _named_in(instruction, word):
    """The number of the place of this word that an instruction names, 0 if it names none."""
    if instruction[0] not in PLACE_AT:
        return 0
    place = instruction[PLACE_AT[instruction[0]]]
    return place[1] if place[0] == word else 0


def registers(code):
    """Return the greatest register that code names, 0 if it names none."""
    demand_code(code)
    greatest = 0
    for instruction in code:
        greatest = max(greatest, _named_in(instruction, "x"))
        if instruction[0] in REGISTER_AT:
            greatest = max(greatest, instruction[REGISTER_AT[instruction[0]]])
    return greatest


def slots_of(code):
    """Return the greatest slot that code names, 0 if it names none."""
    demand_code(code)
    return max([slot_in(instruction) for instruction in code])
