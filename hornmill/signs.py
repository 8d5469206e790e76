"""The tokens of a text."""

from hornmill.errors import NoText
from hornmill.terms import MOST_SIGNS, is_sign

SMALL = "abcdefghijklmnopqrstuvwxyz"
CAPITAL = "ABCDEFGHIJKLMNOPQRSTUVWXYZ"
DIGITS = "0123456789"
WORD = SMALL + CAPITAL + DIGITS + "_"
SYMBOLS = "+-*/\\^<>=~:.?@#&$"
SINGLE = "!;"
MARKS = "()[]{},|"
LAYOUT = " \n"

# Python may refuse to turn a longer row of digits into an integer in one go.
DIGITS_AT_ONCE = 60


def tokens(text):
    """Return the list of the tokens of a text, tuples (kind, value, start, gap); raise NoText."""
    if not isinstance(text, str):
        raise NoText(-1)
    found = []
    at = 0
    gap = False
    while at < len(text):
        if text[at] in LAYOUT:
            gap = True
            at += 1
        else:
            kind, value, stop = _token_at(text, at)
            found.append((kind, value, at, gap))
            gap = False
            at = stop
    return found


def is_name(atom):
    """Tell whether an atom is a name as a token is."""
    return atom != "" and atom != "." and _name_stop(atom, 0) == len(atom)


def _token_at(text, at):
    """The token that begins at a place: its kind, its value, and where it stops."""
    sign = text[at]
    if sign in DIGITS:
        return _integer_at(text, at)
    if sign == "'":
        return _quoted_at(text, at)
    if sign in MARKS:
        return ("mark", sign, at + 1)
    if sign in CAPITAL or sign == "_":
        stop = _run_stop(text, at, WORD)
        return ("variable", text[at:stop], stop)
    return _name_at(text, at)


def _name_at(text, at):
    """The name, or the end, that begins at a place."""
    stop = _name_stop(text, at)
    if stop == at or stop - at > MOST_SIGNS:
        raise NoText(at)
    value = text[at:stop]
    if value == "." and (stop == len(text) or text[stop] in LAYOUT):
        return ("end", value, stop)
    return ("name", value, stop)


def _name_stop(text, at):
    """Where the name that begins at a place stops: this very place, if none begins there."""
    sign = text[at]
    if sign in SMALL:
        return _run_stop(text, at, WORD)
    if sign in SYMBOLS:
        return _run_stop(text, at, SYMBOLS)
    return at + 1 if sign in SINGLE else at


def _run_stop(text, at, signs):
    """The first place from this one on at which none of the signs stands."""
    while at < len(text) and text[at] in signs:
        at += 1
    return at


def _integer_at(text, at):
    """The integer that begins at a place with a digit."""
    stop = _run_stop(text, at, DIGITS)
    if text[at:stop] == "0" and text[stop:stop + 1] == "'":
        return _sign_number_at(text, at)
    return ("integer", _value_of(text[at:stop]), stop)


def _value_of(digits):
    """The integer that digits tell."""
    first = len(digits) % DIGITS_AT_ONCE
    value = int("0" + digits[:first])
    for at in range(first, len(digits), DIGITS_AT_ONCE):
        value = value * 10 ** 60 + int(digits[at:at + DIGITS_AT_ONCE])
    return value


def _sign_number_at(text, at):
    """The integer that 0' and the sign behind it tell."""
    sign = text[at + 2:at + 3]
    if sign == "" or not is_sign(sign):
        raise NoText(at)
    if sign not in "'\\":
        return ("integer", ord(sign), at + 3)
    if text[at + 3:at + 4] != sign:
        raise NoText(at)
    return ("integer", ord(sign), at + 4)


def _quoted_at(text, at):
    """The quoted name that begins at a place."""
    signs = []
    place = at + 1
    while place < len(text) and is_sign(text[place]):
        sign = text[place]
        if sign in "'\\":
            if text[place + 1:place + 2] != sign:
                return _quoted_name(text, at, place, "".join(signs))
            place += 1
        signs.append(sign)
        place += 1
    raise NoText(at)


def _quoted_name(text, at, place, value):
    """The quoted name from a place to the ' at another one; a lone \\ there ends none."""
    if text[place] != "'" or len(value) > MOST_SIGNS:
        raise NoText(at)
    return ("quoted", value, place + 1)
