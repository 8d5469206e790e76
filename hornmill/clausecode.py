"""Clauses, read out of their code."""

from hornmill.code import is_code, is_predicate
from hornmill.decoding import Decoder, Unread
from hornmill.emitting import code_of
from hornmill.errors import NoCode
from hornmill.flatforms import no_flat
from hornmill.flattening import numbered_flat


def flat_of(key, code):
    """Return the flat clause of a key whose code this is."""
    if not is_predicate(key) or not is_code(code):
        raise NoCode("form")
    try:
        key, args, goals = Decoder(key, code).decoded()
    except Unread:
        raise NoCode("clause")
    flat = numbered_flat(key, args, goals)
    if no_flat(flat) is not None or code_of(flat) != code:
        raise NoCode("clause")
    return flat
