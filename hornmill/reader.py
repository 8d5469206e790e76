"""Terms from texts."""

from hornmill.errors import NoText
from hornmill.operators import demand_table
from hornmill.parsing import Parser
from hornmill.signs import tokens


def read_term(text, table):
    """Return a tuple of the term that a text tells and the names of its variables."""
    parser = _parser(text, table)
    if not _read_whole(parser):
        raise NoText(len(text))
    return (parser.found[0], parser.names)


def read_terms(text, table):
    """Return the list of such tuples for a text of terms that each have an end behind them."""
    parser = _parser(text, table)
    found = []
    while not parser.is_over():
        parser.begin()
        if not parser.read() or parser.is_over():
            raise NoText(len(text))
        _take_end(parser)
        found.append((parser.found[0], parser.names))
    return found


def ending(text, table):
    """Return signs that make a text a whole one when they stand behind it."""
    parser = _parser(text, table)
    return "" if _read_whole(parser) else parser.missing()


def _parser(text, table):
    row = tokens(text)
    demand_table(table)
    return Parser(row, table)


def _read_whole(parser):
    """Read the one term of a text; tell whether the text goes as far."""
    if not parser.read():
        return False
    if not parser.is_over():
        _take_end(parser)
    if not parser.is_over():
        parser.refuse()
    return True


def _take_end(parser):
    """Take an end; nothing else can stand behind a whole term."""
    if not parser.is_at("end", "."):
        parser.refuse()
    parser.token_at += 1
