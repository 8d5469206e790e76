"""The instructions that move and unify cells.

Each function does an instruction in an engine and returns whether it succeeds.
"""

from hornmill.cells import NO_CELL


def constant_cell(constant):
    """The cell of an atom or an integer."""
    return ("con", constant) if isinstance(constant, str) else ("int", constant)


def _take_new(engine, instruction):
    engine.put_in(instruction[1], engine.held[instruction[2]])
    return True


def _take_old(engine, instruction):
    return engine.store.join(engine.cell_in(instruction[1]), engine.held[instruction[2]])


def _take_const(engine, instruction):
    return _is_constant(engine, engine.held[instruction[2]], instruction[1])


def _is_constant(engine, cell, constant):
    """Unify what a cell stands for with an atom or an integer."""
    end = engine.store.follow(cell)
    told = constant_cell(constant)
    if end[0] == "ref":
        engine.store.assign(end[1], told)
        return True
    return end == told


def _take_struct(engine, instruction):
    word, name, many, i = instruction
    store = engine.store
    end = store.follow(engine.held[i])
    if end[0] == "ref":
        _begin_structure(engine, name, many)
        engine.bound = end[1]
        store.assign(end[1], ("str", ("h", engine.structure)))
        return True
    if end[0] != "str" or store.functor(end) != ("fun", name, many):
        return False
    engine.is_writing = False
    engine.next_argument = end[1][1] + 1
    return True


def _give_struct(engine, instruction):
    word, name, many, i = instruction
    _begin_structure(engine, name, many)
    engine.held[i] = ("str", ("h", engine.structure))
    return True


def _begin_structure(engine, name, many):
    """Put a functor cell on the heap; the arguments are to be written."""
    engine.structure = engine.store.size()
    engine.store.cells.append(("fun", name, many))
    engine.untold = many
    engine.is_writing = True
    engine.bound = None
    engine.is_mixed = False


def _told(engine, many):
    """Note that some arguments were told; return False if the structure has come to be within itself."""
    if not engine.is_writing:
        engine.next_argument += many
        return True
    engine.untold -= many
    if engine.untold > 0 or engine.bound is None or not engine.is_mixed:
        return True
    return not _is_within(engine.store, engine.bound, ("str", ("h", engine.structure)))


def _is_within(store, address, structure):
    """Tell whether a structure, or the variable that was bound to it, occurs in its arguments."""
    seen = {}
    waiting = store.arguments(structure)
    while waiting:
        cell = waiting.pop()
        while cell[0] == "ref" and cell[1] != address and store.look(cell[1]) != cell:
            cell = store.look(cell[1])
        if cell == structure or cell == ("ref", address):
            return True
        if cell[0] == "str" and cell not in seen:
            seen[cell] = True
            waiting.extend(store.arguments(cell))
    return False


def _arg_new(engine, instruction):
    if engine.is_writing:
        cell = ("ref", engine.store.new())
    else:
        cell = engine.store.cells[engine.next_argument]
    engine.put_in(instruction[1], cell)
    return _told(engine, 1)


def _arg_old(engine, instruction):
    cell = engine.cell_in(instruction[1])
    if not engine.is_writing:
        return _join_argument(engine, cell)
    engine.store.cells.append(cell)
    engine.is_mixed = True
    return _told(engine, 1)


def _join_argument(engine, cell):
    """Join a cell with the next argument that is read."""
    return engine.store.join(cell, engine.store.cells[engine.next_argument]) and _told(engine, 1)


def _arg_local(engine, instruction):
    place = instruction[1]
    cell = engine.cell_in(place)
    if not engine.is_writing:
        return _join_argument(engine, cell)
    store = engine.store
    end = store.follow(cell)
    if end[0] == "ref" and end[1][0] == "s":
        told = globalized(store, end[1])
        if place[0] == "x":
            engine.put_in(place, told)
    else:
        store.cells.append(end)
    engine.is_mixed = True
    return _told(engine, 1)


def globalized(store, address):
    """Bind an unbound variable of the stack to a new one on the heap; return a reference to that."""
    told = ("ref", store.new())
    store.assign(address, told)
    return told


def _arg_const(engine, instruction):
    if engine.is_writing:
        engine.store.cells.append(constant_cell(instruction[1]))
    elif not _is_constant(engine, engine.store.cells[engine.next_argument], instruction[1]):
        return False
    return _told(engine, 1)


def _arg_skip(engine, instruction):
    many = instruction[1]
    if engine.is_writing:
        for _ in range(many):
            engine.store.new()
    return _told(engine, many)


def _give_new(engine, instruction):
    word, place, i = instruction
    if place[0] == "x":
        told = ("ref", engine.store.new())
    else:
        told = ("ref", ("s", engine.frame.base + 1 + place[1]))
    engine.put_in(place, told)
    engine.held[i] = told
    return True


def _give_old(engine, instruction):
    engine.held[instruction[2]] = engine.cell_in(instruction[1])
    return True


def _give_unsafe(engine, instruction):
    word, place, i = instruction
    end = engine.store.follow(engine.cell_in(place))
    if end[0] == "ref" and end[1][0] == "s" and end[1][1] >= engine.frame.base:
        end = globalized(engine.store, end[1])
    engine.held[i] = end
    return True


def _give_const(engine, instruction):
    engine.held[instruction[2]] = constant_cell(instruction[1])
    return True


def _keep_entry(engine, instruction):
    engine.put_in(instruction[1], ("level", engine.level))
    return True


def _keep_now(engine, instruction):
    engine.put_in(instruction[1], ("level", len(engine.points)))
    return True


def _cut_to(engine, instruction):
    engine.cut(engine.cell_in(instruction[1])[1])
    return True


def _soft_cut(engine, instruction):
    level = engine.cell_in(instruction[1])[1]
    if level < len(engine.points):
        point = engine.points[level]
        point.ways = []
        if level + 1 == len(engine.points):
            engine.cut(level)
    return True


def _frame(engine, instruction):
    engine.push_frame("code", [NO_CELL for _ in range(instruction[1])])
    return True


def _unframe(engine, instruction):
    engine.pop_frame()
    return True


def _return(engine, instruction):
    return engine.go_on()


INSTRUCTIONS = {
    "take_new": _take_new, "take_old": _take_old, "take_const": _take_const, "take_struct": _take_struct,
    "arg_new": _arg_new, "arg_old": _arg_old, "arg_local": _arg_local, "arg_const": _arg_const, "arg_skip": _arg_skip,
    "give_new": _give_new, "give_old": _give_old, "give_unsafe": _give_unsafe, "give_const": _give_const,
    "give_struct": _give_struct,
    "keep_entry": _keep_entry, "keep_now": _keep_now, "cut_to": _cut_to, "soft_cut": _soft_cut,
    "frame": _frame, "unframe": _unframe, "return": _return,
}
