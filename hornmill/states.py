"""The states of a machine: now, and behind each of its choice points."""

from hornmill.errors import BadValue
from hornmill.terms import is_number


def engine_at_clause(machine):
    """The engine of a machine that stands at a clause; raise BadValue for any other one."""
    engine = machine.engine
    if engine.word != "run" or engine.line != 0:
        raise BadValue("machine")
    return engine


def demand_choice(engine, i):
    """Raise BadValue for what is no index of a choice point."""
    if not is_number(i) or i >= len(engine.points):
        raise BadValue("choice")


class State:
    """What an engine has now, or what it would have after failing to choice point i.

    size_then is that of the heap. unbound are the places that are unbound variables again.
    """

    def __init__(self, engine, i):
        self.store = engine.store
        self.unbound = {}
        if i is None:
            self.held = engine.held
            self.size_then = engine.store.size()
            self.rows = engine.frame_rows(engine.frame, engine.kept, self.cell_at)
        else:
            point = engine.points[i]
            self.held = point.held
            self.size_then = point.heap_length
            for address in engine.store.noted[point.trail_length:]:
                self.unbound[address] = True
            self.rows = engine.frame_rows(point.frame, point.back.kept, self.cell_at)
        self.shown = engine.shown

    def cell_at(self, address):
        """The cell at a place that is there."""
        return ("ref", address) if address in self.unbound else self.store.look(address)

    def reached(self):
        """A dict with the addresses that are reached."""
        found = {}
        waiting = list(self.held.values()) + list(self.shown)
        for base, cells in self.rows:
            for at, cell in enumerate(cells):
                found[("s", base + 2 + at)] = True
                waiting.append(cell)
        while waiting:
            places = self._places_of(waiting.pop())
            for address in places:
                if address not in found:
                    found[address] = True
                    waiting.append(self.cell_at(address))
        return found

    def _places_of(self, cell):
        """The places to which a cell leads."""
        if cell[0] not in ("ref", "str"):
            return []
        word, k = cell[1]
        if word == "s":
            return [cell[1]]
        if k >= self.size_then:
            return []
        if cell[0] == "ref":
            return [cell[1]]
        functor = self.cell_at(cell[1])
        # What stands in a slot that will be filled may lead to anything.
        if functor[0] != "fun":
            return []
        return [("h", place) for place in range(k, min(k + functor[2] + 1, self.size_then))]
