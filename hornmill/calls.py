"""Calls in a machine: of predicates, of builtins, of control constructs; failing, and throwing.

A function that does something in an engine returns whether it succeeds.
"""

from hornmill.bodies import has_goals
from hornmill.builtins import builtin_row
from hornmill.faults import error_ball
from hornmill.flat import flat_goal
from hornmill.instructions import globalized
from hornmill.lists import listed
from hornmill.points import Spot
from hornmill.program import can_begin
from hornmill.sorts import sort_named
from hornmill.tasks import LimitMet, Thrown
from hornmill.terms import MOST_ARGUMENTS, arguments_of, is_variable, numbers_in, replaced
from hornmill.unify import unify

# How many slots the frame of a catch or a findall has: a level and two cells.
OWN_SLOTS = 3


def _begin(engine):
    """Call the goal of a run."""
    goal = called_goal([engine.goal])
    flats = flat_goal(goal, engine.free_name)
    engine.add_new(flats)
    engine.shown = [("ref", engine.store.new()) for _ in flats[0][1]]
    engine.held = {at + 1: cell for at, cell in enumerate(engine.shown)}
    return call_key(engine, flats[0][0])


def call_key(engine, key):
    """Call a key with the arguments in the registers; the continuation stays as it is."""
    engine.level = len(engine.points)
    engine.held = {i: cell for i, cell in engine.held.items() if i <= key[1]}
    sort = sort_named(key)
    if sort == "control":
        action = CONTROL[key[0]]
        return action(engine, key[1])
    if sort is not None:
        return _do_builtin(engine, key, None) and engine.go_on()
    clauses = _clauses_of(engine, key)
    root = _root_of(engine, engine.held[1]) if key[1] > 0 else None
    row = [one for one in clauses if can_begin(one, root)]
    if row == []:
        return False
    if len(row) > 1:
        engine.choose("clauses", key, row[1:], engine.frame, engine.back)
    return engine.begin_clause(row[0])


def _clauses_of(engine, key):
    """The clauses of a predicate; calls of those of users are counted."""
    name, arity = key
    if key in engine.news:
        return engine.news[key]
    if isinstance(name, int):
        return engine.world.made_of(key)
    library = engine.world.of_library(key)
    if library is not None:
        return [library.coded]
    if engine.called == engine.limit:
        raise LimitMet()
    engine.called += 1
    clauses = engine.world.kept_of(key)
    if clauses is None:
        raise Thrown(error_ball(("existence_error", "procedure", ("/", name, arity)), name, arity))
    return [one.coded for one in clauses]


def _root_of(engine, cell):
    """What a cell stands for is at its root; None for a variable, or a level."""
    end = engine.store.follow(cell)
    if end[0] == "str":
        word, name, many = engine.store.functor(end)
        return (name, many + 1)
    return (end[1], 0) if end[0] in ("con", "int") else None


def _read(engine, many):
    """The terms of the first registers, and the addresses of their variables."""
    return engine.store.read([engine.held[i + 1] for i in range(many)])


def _call_instruction(engine, instruction):
    """Do the instruction call."""
    word, key, kept = instruction
    engine.back = Spot("run", engine.clause, engine.line, kept)
    engine.kept = kept
    return call_key(engine, key)


def _jump_instruction(engine, instruction):
    """Do the instruction jump."""
    return call_key(engine, instruction[1])


def _builtin_instruction(engine, instruction):
    """Do the instruction builtin."""
    return _do_builtin(engine, instruction[1], None)


def _do_builtin(engine, key, point):
    """Take a row of a builtin: the next one of its choice point, or the first one, with None for the point."""
    terms, addresses = _read(engine, key[1])
    row = builtin_row(engine.world, key, terms, 0 if point is None else point.ways[0])
    if row[0] == "throw":
        raise Thrown(row[1])
    more = row[2] if row[0] == "row" else None
    if point is not None and more is None:
        engine.cut(len(engine.points) - 1)
    elif point is not None:
        point.ways = [more]
    elif more is not None:
        engine.choose("builtin", key, [more], engine.frame, engine.back)
    return row[0] == "row" and _join_pairs(engine, row[1], addresses)


def _join_pairs(engine, pairs, addresses):
    """Join the pairs of a row; the variables that were read have their addresses."""
    names = {k: ("ref", address) for k, address in enumerate(addresses)}
    for one, other in pairs:
        first = build(engine, one, names)
        if not engine.store.join(first, build(engine, other, names)):
            return False
    return True


def build(engine, term, names):
    """Write a term to the heap; no cell of it refers to the stack."""
    if isinstance(term, tuple) and len(term) > 1:
        for k in numbers_in(term):
            if k in names:
                end = engine.store.follow(names[k])
                if end[0] == "ref" and end[1][0] == "s":
                    end = globalized(engine.store, end[1])
                names[k] = end
    return engine.store.build(term, names)


def called_goal(terms):
    """The goal that call makes of some terms; it may throw an error."""
    first = terms[0]
    arity = len(terms)
    if is_variable(first):
        raise Thrown(error_ball("instantiation_error", "call", arity))
    if isinstance(first, int):
        raise Thrown(error_ball(("type_error", "callable", first), "call", arity))
    goal = first
    if arity > 1:
        inner = [*arguments_of(first), *terms[1:]]
        if len(inner) > MOST_ARGUMENTS:
            raise Thrown(error_ball(("representation_error", "max_arity"), "call", arity))
        goal = (first[0] if isinstance(first, tuple) else first, *inner)
    if not has_goals(goal):
        raise Thrown(error_ball(("type_error", "callable", goal), "call", arity))
    return goal


def _call(engine, arity):
    terms, addresses = _read(engine, arity)
    goal = called_goal(terms)
    flats = flat_goal(goal, engine.free_name)
    engine.add_new(flats)
    engine.held = {at + 1: ("ref", address) for at, address in enumerate(addresses)}
    return call_key(engine, flats[0][0])


def _throw(engine, arity):
    ball = _read(engine, arity)[0][0]
    if is_variable(ball):
        raise Thrown(error_ball("instantiation_error", "throw", 1))
    raise Thrown(ball)


def _catch(engine, arity):
    frame, back = engine.frame, engine.back
    engine.push_frame("catch", [("level", len(engine.points)), engine.held[2], engine.held[3]])
    engine.choose("catch", None, [], frame, back)
    return _call_within(engine, "LEAVE", engine.held[1])


def _findall(engine, arity):
    frame, back = engine.frame, engine.back
    engine.push_frame("findall", [("level", len(engine.points)), engine.held[1], engine.held[3]])
    engine.choose("findall", None, [], frame, back)
    return _call_within(engine, "COLLECT", engine.held[2])


def _call_within(engine, word, cell):
    """Call a goal within the frame of a catch or a findall."""
    engine.back = Spot(word, None, 0, OWN_SLOTS)
    engine.held = {1: cell}
    return call_key(engine, ("call", 1))


CONTROL = {"call": _call, "throw": _throw, "catch": _catch, "findall": _findall}


def _leave(engine):
    """Leave the goal of a catch."""
    level = engine.cell_in(("y", 1))[1]
    if len(engine.points) == level + 1:
        engine.cut(level)
    engine.pop_frame()
    return engine.go_on()


def _collect(engine):
    """Put a result to those of a findall; return False, to fail for the next one."""
    point = engine.points[engine.cell_in(("y", 1))[1]]
    point.results.append(engine.store.read([engine.cell_in(("y", 2))])[0][0])
    return False


def fail(engine):
    """Come back to the last choice point that has an alternative, and go on with this one.

    Return None if there is none, otherwise whether the alternative succeeds as far as it
    is done at once.
    """
    while engine.points:
        point = engine.points[-1]
        engine.restore(point)
        if point.word == "findall":
            engine.cut(len(engine.points) - 1)
            return _join_results(engine, point) and engine.go_on()
        if point.word == "builtin" and point.ways != []:
            return _do_builtin(engine, point.key, point) and engine.go_on()
        alternatives = point.ways
        point.ways = alternatives[1:]
        if point.ways == []:
            engine.cut(len(engine.points) - 1)
        if alternatives != []:
            return engine.begin_clause(alternatives[0])
    return None


def _join_results(engine, point):
    """Join the list of the results of a findall with what stands for it."""
    results = []
    free = 1
    for result in point.results:
        numbers = numbers_in(result)
        results.append(replaced(result, {k: (free + at,) for at, k in enumerate(numbers)}))
        free += len(numbers)
    # The variable 0 stands for the end of the list, if that is an argument of its own.
    whole = listed(results, (0,)) if 4 in point.held else listed(results)
    names = {0: point.held[4]} if 4 in point.held else {}
    return engine.store.join(build(engine, whole, names), point.held[3])


def catch_ball(engine, ball):
    """Come back to the innermost catch that catches a ball, and call its recovery; return None if there is none."""
    frame = engine.frame
    while frame is not None:
        if frame.word == "catch" and _catches(engine, frame, ball):
            return call_key(engine, ("call", 1))
        frame = frame.before
    return None


def _catches(engine, frame, ball):
    """Come back to a catch, and tell whether it catches a ball; if so, its recovery is laid ready."""
    store = engine.store
    level, catcher, recovery = [store.look(("s", frame.base + 2 + at)) for at in range(OWN_SLOTS)]
    engine.cut(level[1] + 1)
    point = engine.points[-1]
    store.undo(point.trail_length, point.heap_length)
    numbers = numbers_in(ball)
    told = store.read([catcher])[0][0]
    free = len(numbers_in(told))
    apart = replaced(ball, {k: (free + at,) for at, k in enumerate(numbers)})
    if unify([(told, apart)]) is None:
        return False
    engine.cut(level[1])
    engine.come_to(frame.before, frame.back)
    store.join(build(engine, ball, {}), catcher)
    engine.held = {1: recovery}
    return True


CALL_INSTRUCTIONS = {"call": _call_instruction, "jump": _jump_instruction, "builtin": _builtin_instruction}
CONTINUATIONS = {"begin": _begin, "LEAVE": _leave, "COLLECT": _collect}
