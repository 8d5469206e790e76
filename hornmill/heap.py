"""The store: terms as cells on a heap and on a stack."""

from hornmill.cells import NO_CELL, demand_cell, is_address
from hornmill.errors import BadAddress, BadCell, BadValue
from hornmill.terms import demand_term, is_number, is_variable


class Store:
    """A heap, the places of a stack, and a trail.

    cells are those of the heap, slots those of the stack by their places, of which there are
    stack_size; noted are the addresses on the trail.
    """

    def __init__(self):
        self.cells = []
        self.slots = {}
        self.stack_size = 0
        self.noted = []
        self.heap_mark = 0
        self.stack_mark = 0

    def heap(self):
        """Return the list of the cells of the heap."""
        return list(self.cells)

    def trail(self):
        """Return the list of the addresses that were noted."""
        return list(self.noted)

    def size(self):
        """Return the number of the cells of the heap."""
        return len(self.cells)

    def at(self, address):
        """Return the cell at a place."""
        self._demand_place(address)
        return self.look(address)

    def end(self, cell):
        """Return the end of a cell."""
        demand_cell(cell)
        return self.follow(cell)

    def new(self):
        """Put an unbound variable at the end of the heap, and return its address."""
        address = ("h", len(self.cells))
        self.cells.append(("ref", address))
        return address

    def put(self, cell):
        """Put a cell at the end of the heap, and return its address."""
        demand_cell(cell)
        self.cells.append(cell)
        return ("h", len(self.cells) - 1)

    def fill(self, k, cell):
        """Put a cell at the place k of the stack."""
        if not is_number(k):
            raise BadValue("place")
        demand_cell(cell)
        self.slots[k] = cell
        self.stack_size = max(self.stack_size, k + 1)

    def free(self, k):
        """Make the place k of the stack an unbound variable."""
        if not is_number(k):
            raise BadValue("place")
        self.fill(k, ("ref", ("s", k)))

    def marks(self, heap_mark, stack_mark):
        """Set the marks below which places are noted when they are bound."""
        if not is_number(heap_mark) or not is_number(stack_mark):
            raise BadValue("mark")
        self.heap_mark = heap_mark
        self.stack_mark = stack_mark

    def bind(self, address, cell):
        """Put a cell at the place of an unbound variable."""
        self._demand_place(address)
        if self.look(address) != ("ref", address):
            raise BadAddress(address)
        demand_cell(cell)
        self.assign(address, cell)

    def undo(self, length, size):
        """Make the places of the trail beyond a length unbound variables; cut the heap to a size."""
        if not is_number(length) or length > len(self.noted):
            raise BadValue("length")
        if not is_number(size) or size > len(self.cells):
            raise BadValue("size")
        while len(self.noted) > length:
            address = self.noted.pop()
            self.change(address, ("ref", address))
        del self.cells[size:]

    def build(self, term, names):
        """Write a term to the heap, and return a cell for it; new variables are put into names."""
        demand_term(term)
        if not isinstance(names, dict):
            raise BadValue("names")
        if is_variable(term) and term[0] not in names:
            names[term[0]] = ("ref", self.new())
        if not isinstance(term, tuple) or is_variable(term):
            return _leaf_cell(term, names)
        cell = ("str", ("h", len(self.cells)))
        waiting = [term]
        written = 0
        # The place behind all compounds that are written or wait.
        last = len(self.cells) + len(term)
        while written < len(waiting):
            compound = waiting[written]
            written += 1
            self.cells.append(("fun", compound[0], len(compound) - 1))
            for inner in compound[1:]:
                if isinstance(inner, tuple) and not is_variable(inner):
                    self.cells.append(("str", ("h", last)))
                    last += len(inner)
                    waiting.append(inner)
                elif is_variable(inner) and inner[0] not in names:
                    names[inner[0]] = ("ref", self.new())
                else:
                    self.cells.append(_leaf_cell(inner, names))
        return cell

    def read(self, cells):
        """Return the terms that some cells stand for, renumbered together, and the addresses of their variables."""
        if not isinstance(cells, (list, tuple)):
            raise BadCell(cells)
        for cell in cells:
            demand_cell(cell)
        numbers = {}
        known = {}
        done = []
        # Compounds wait below their arguments for these, as the end of a str cell and True.
        waiting = [(cell, False) for cell in reversed(cells)]
        while waiting:
            cell, is_read = waiting.pop()
            cell = self.follow(cell)
            if is_read:
                known[cell[1][1]] = self._compound(cell, done)
                done.append(known[cell[1][1]])
            elif cell[0] == "str" and cell[1][1] in known:
                done.append(known[cell[1][1]])
            elif cell[0] == "str":
                waiting.append((cell, True))
                waiting.extend([(inner, False) for inner in self.arguments(cell)[::-1]])
            elif cell[0] == "ref":
                done.append((numbers.setdefault(cell[1], len(numbers)),))
            else:
                done.append(cell[1])
        return (done, list(numbers))

    def _compound(self, cell, done):
        """The compound of a str cell, whose arguments are taken off the end of a row of terms."""
        name, many = self.functor(cell)[1:]
        inner = done[-many:]
        del done[-many:]
        return (name, *inner)

    def contains(self, address, cell):
        """Return whether an unbound variable occurs in what a cell stands for."""
        self._demand_place(address)
        demand_cell(cell)
        return self.occurs(address, cell)

    def join(self, one, other):
        """Unify what two cells stand for, and return whether they unify."""
        demand_cell(one)
        demand_cell(other)
        seen = {}
        waiting = [(one, other)]
        while waiting:
            one, other = waiting.pop()
            one, other = self.follow(one), self.follow(other)
            if one == other:
                continue
            if one[0] == "ref" or other[0] == "ref":
                if not self._join_variable(one, other):
                    return False
            elif one[0] != "str" or other[0] != "str" or self.functor(one) != self.functor(other):
                return False
            elif (one, other) not in seen:
                seen[(one, other)] = True
                waiting.extend(list(zip(self.arguments(one), self.arguments(other)))[::-1])
        return True

    def _join_variable(self, one, other):
        """Join two unlike ends one of which is an unbound variable."""
        if one[0] != "ref" or (other[0] == "ref" and one[1] < other[1]):
            one, other = other, one
        if other[0] == "str" and self.occurs(one[1], other):
            return False
        self.assign(one[1], other)
        return True

    def _demand_place(self, address):
        """Raise BadAddress for what is no address of a place that is there."""
        if not is_address(address) or address[1] >= (len(self.cells) if address[0] == "h" else self.stack_size):
            raise BadAddress(address)

    def look(self, address):
        """The cell at a place that is there."""
        return self.cells[address[1]] if address[0] == "h" else self.slots.get(address[1], NO_CELL)

    def change(self, address, cell):
        """Put a cell at a place that is there."""
        if address[0] == "h":
            self.cells[address[1]] = cell
        else:
            self.slots[address[1]] = cell

    def assign(self, address, cell):
        """Put a cell at the place of an unbound variable, and note the place if it is below its mark."""
        self.change(address, cell)
        if address[1] < (self.heap_mark if address[0] == "h" else self.stack_mark):
            self.noted.append(address)

    def follow(self, cell):
        """The end of a cell."""
        while cell[0] == "ref":
            there = self.look(cell[1])
            if there == cell:
                return cell
            cell = there
        return cell

    def functor(self, cell):
        """The functor cell to which a str cell leads."""
        return self.cells[cell[1][1]]

    def arguments(self, cell):
        """The cells of the arguments of what a str cell leads to."""
        first = cell[1][1] + 1
        return self.cells[first:first + self.functor(cell)[2]]

    def occurs(self, address, cell):
        """Tell whether an unbound variable occurs in what a cell stands for."""
        seen = {}
        waiting = [cell]
        while waiting:
            cell = self.follow(waiting.pop())
            if cell == ("ref", address):
                return True
            if cell[0] == "str" and cell not in seen:
                seen[cell] = True
                waiting.extend(self.arguments(cell))
        return False


def _leaf_cell(term, names):
    """The cell of an atom, an integer, or a variable that has a name."""
    if isinstance(term, str):
        return ("con", term)
    return names[term[0]] if isinstance(term, tuple) else ("int", term)
