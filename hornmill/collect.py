"""How a machine gets rid of what nobody can reach any more."""

from hornmill.cells import NO_CELL
from hornmill.states import State, engine_at_clause


def collect(machine):
    """Remove the cells of the heap that are not reached; return how many there were."""
    engine = engine_at_clause(machine)
    size = engine.store.size()
    Collector(engine).collect()
    return size - engine.store.size()


class Collector:
    """Keeps the places of an engine that are reached in any of its states.

    The states are numbered: those behind choice points, then that now. first and last have
    for each kept place the first and the last state in which it is reached, moved has the
    address that it gets.
    """

    def __init__(self, engine):
        self.engine = engine
        self.first = {}
        self.last = {}
        self.moved = {}
        for i in range(len(engine.points)):
            self._note(State(engine, i), i)
        self._note(State(engine, None), len(engine.points))

    def _note(self, state, i):
        """Note what is reached in the state of a number."""
        for address in state.reached():
            self.first.setdefault(address, i)
            self.last[address] = i

    def collect(self):
        """Do what there is to do."""
        engine = self.engine
        self._thin_trail()
        below = self._count_moves(engine.store.size())
        for point in engine.points:
            point.heap_length = below[point.heap_length]
            point.held = self._moved_cells(point.held)
        engine.held = self._moved_cells(engine.held)
        engine.shown = [self._moved_cell(cell) for cell in engine.shown]
        self._move_store(engine.store)
        engine.mark()

    def _count_moves(self, size):
        """Find where all places go; return for each place of a heap of a size how many are kept below it."""
        for address in self.first:
            if address[0] == "s":
                self.moved[address] = address
        many = 0
        below = [0]
        for k in range(size):
            if ("h", k) in self.first:
                self.moved[("h", k)] = ("h", many)
                many += 1
            below.append(many)
        return below

    def _move_store(self, store):
        """Move the kept cells of the heap together, and clear the places of the stack that are not kept."""
        store.cells = [self._moved_cell(cell) for k, cell in enumerate(store.cells) if ("h", k) in self.moved]
        for k in list(store.slots):
            is_kept = ("s", k) in self.moved
            store.slots[k] = self._moved_cell(store.slots[k]) if is_kept else NO_CELL
        store.noted = [self.moved[address] for address in store.noted]

    def _moved_cells(self, held):
        """A dict of registers with moved cells."""
        return {i: self._moved_cell(cell) for i, cell in held.items()}

    def _moved_cell(self, cell):
        """A cell that leads to where the place goes to which it leads; none if that is not kept."""
        if cell[0] not in ("ref", "str"):
            return cell
        return (cell[0], self.moved[cell[1]]) if cell[1] in self.moved else NO_CELL

    def _thin_trail(self):
        """Leave the entries on the trail that are needed, and set places back that are not reached as they are."""
        engine = self.engine
        points = engine.points
        kept = []
        # The number of choice points behind whose making the entry was noted.
        many = 0
        for at, address in enumerate(engine.store.noted):
            while many < len(points) and points[many].trail_length <= at:
                points[many].trail_length = len(kept)
                many += 1
            if address in self.first and self.first[address] < many:
                if self.last[address] >= many:
                    kept.append(address)
                else:
                    engine.store.change(address, ("ref", address))
        for point in points[many:]:
            point.trail_length = len(kept)
        engine.store.noted = kept
