"""The chunks of flat clauses, and the slots of their variables."""

from hornmill.flatforms import demand_flat, is_call
from hornmill.layout import Layout, chunk_rows


def chunks(flat):
    """Return the list of the chunks of a flat clause, each one a list of goals."""
    demand_flat(flat)
    return chunk_rows(flat[2])


def slots(flat):
    """Return the list of the lasting variables in the order of their slots."""
    demand_flat(flat)
    return [(k,) for k in Layout(flat).lasting()]


def trims(flat):
    """Return for each call the number of slots that are needed behind it."""
    demand_flat(flat)
    layout = Layout(flat)
    return [layout.needed(at) for at, row in enumerate(layout.rows) if row != [] and is_call(row[-1])]


def has_frame(flat):
    """Tell whether there is a call that is not the last goal."""
    demand_flat(flat)
    return len(chunk_rows(flat[2])) > 1
