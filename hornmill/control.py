"""The control constructs, as runs of goals do them.

Each function does the goal of a task of a run and returns whether it succeeds.
"""

from hornmill.bodies import is_construct, key_of
from hornmill.faults import error_ball
from hornmill.tasks import Task, Thrown
from hornmill.terms import MOST_ARGUMENTS, folded, is_variable
from hornmill.trees import Built, Free, end_of, make, read


def things_of(task):
    """The arguments of the goal of a task."""
    return [make(term, task.things) for term in task.goal[1:]] if isinstance(task.goal, tuple) else []


def calling(thing, level, behind):
    """The task to call a thing."""
    return Task("goal", ("call", (0,)), {0: thing}, level, behind)


def _inner(task, goal, level, behind):
    """The task to do a goal that stands in that of a task."""
    return Task("goal", goal, task.things, level, behind)


def _ending(word, level, behind):
    """A step that cuts, or strikes a choice out."""
    return Task(word, None, None, level, behind)


def _true(run, task):
    return True


def _cut(run, task):
    run.cut(task.level)
    return True


def _both(run, task):
    one, other = task.goal[1:]
    run.task = _inner(task, one, task.level, _inner(task, other, task.level, task.behind))
    return True


def _then(run, task):
    test, rest = task.goal[1:]
    height = run.height()
    run.task = _inner(task, test, height, _ending("cut", height, _inner(task, rest, task.level, task.behind)))
    return True


def _soft_then(run, task):
    test, rest = task.goal[1:]
    run.task = _inner(task, test, run.height(), _inner(task, rest, task.level, task.behind))
    return True


def _either(run, task):
    one, other = task.goal[1:]
    height = run.height()
    run.choose("goal", None, _inner(task, other, task.level, task.behind))
    if key_of(one) in (("->", 2), ("*->", 2)):
        word = "cut" if one[0] == "->" else "soft"
        rest = _inner(task, one[2], task.level, task.behind)
        run.task = _inner(task, one[1], height + 1, _ending(word, height, rest))
    else:
        run.task = _inner(task, one, task.level, task.behind)
    return True


def _not(run, task):
    height = run.height()
    run.choose("goal", None, task.behind)
    last = _inner(task, "fail", task.level, task.behind)
    run.task = _inner(task, task.goal[1], height + 1, _ending("cut", height, last))
    return True


def _once(run, task):
    run.task = _inner(task, ("->", task.goal[1], "true"), task.level, task.behind)
    return True


def _ignore(run, task):
    run.task = _inner(task, (";", ("->", task.goal[1], "true"), "true"), task.level, task.behind)
    return True


def _forall(run, task):
    one, other = task.goal[1:]
    run.task = _inner(task, ("\\+", (",", one, ("\\+", other))), task.level, task.behind)
    return True


def _call(run, task):
    things = things_of(task)
    goal, known = called(things)
    run.task = Task("goal", goal, known, run.height(), task.behind)
    return True


def called(things):
    """The goal that call makes of its arguments, and what its variables are; it may throw an error."""
    first = end_of(things[0])
    arity = len(things)
    if isinstance(first, Free):
        raise Thrown(error_ball("instantiation_error", "call", arity))
    if isinstance(first, int):
        raise Thrown(error_ball(("type_error", "callable", first), "call", arity))
    if arity > 1:
        inner = first.inner if isinstance(first, Built) else ()
        if len(inner) + arity - 1 > MOST_ARGUMENTS:
            raise Thrown(error_ball(("representation_error", "max_arity"), "call", arity))
        name = first.name if isinstance(first, Built) else first
        first = Built(name, (*inner, *things[1:]))
    goal, known = _goal_of(first)
    if goal is None:
        raise Thrown(error_ball(("type_error", "callable", read([first])[0][0]), "call", arity))
    return goal, known


def _goal_of(thing):
    """A goal, with variables for the arguments of its leaves, and what these are; None for no body."""
    known = {}
    row = []
    waiting = [thing]
    while waiting:
        one = end_of(waiting.pop())
        if isinstance(one, int):
            return None, known
        if isinstance(one, Free):
            row.append((("call", _new(known, one)), 0))
        elif isinstance(one, str):
            row.append((one, 0))
        elif is_construct((one.name, *one.inner)):
            row.append((one.name, len(one.inner)))
            waiting.extend(one.inner[::-1])
        else:
            row.append(((one.name, *[_new(known, inner) for inner in one.inner]), 0))
    return folded(row), known


def _new(known, thing):
    """A variable that is known to be a thing."""
    number = len(known)
    known[number] = thing
    return (number,)


def _catch(run, task):
    goal, catcher, recovery = things_of(task)
    height = run.height()
    run.choose("catch", None, None)
    leave = Task("leave", (catcher, recovery), None, height, task.behind)
    run.task = calling(goal, height + 1, leave)
    return True


def _findall(run, task):
    things = things_of(task)
    template, goal, found = things[:3]
    end = things[3] if len(things) > 3 else "[]"
    height = run.height()
    run.choose("findall", ([], found, end), task.behind)
    run.task = calling(goal, height + 1, Task("collect", template, None, height, task.behind))
    return True


def _throw(run, task):
    ball = read(things_of(task))[0][0]
    if is_variable(ball):
        raise Thrown(error_ball("instantiation_error", "throw", 1))
    raise Thrown(ball)


CONTROL = {
    ("true", 0): _true, ("!", 0): _cut, (",", 2): _both, ("->", 2): _then, ("*->", 2): _soft_then, (";", 2): _either,
    ("\\+", 1): _not, ("once", 1): _once, ("ignore", 1): _ignore, ("forall", 2): _forall, ("catch", 3): _catch,
    ("findall", 3): _findall, ("findall", 4): _findall, ("throw", 1): _throw, ("call", 1): _call, ("call", 2): _call,
    ("call", 3): _call, ("call", 4): _call, ("call", 5): _call, ("call", 6): _call, ("call", 7): _call,
    ("call", 8): _call,
}
