"""The machine: goals by compiled code."""

from hornmill.calls import CALL_INSTRUCTIONS, CONTINUATIONS, catch_ball, fail
from hornmill.engine import Engine
from hornmill.errors import BadGoal, BadValue
from hornmill.instructions import INSTRUCTIONS
from hornmill.tasks import LimitMet, Thrown
from hornmill.terms import is_number, is_term, renumbered

PLACE_WORDS = ("END", "LEAVE", "COLLECT")


class Machine:
    """A run of a goal in a world by compiled code, step by step or answer by answer."""

    def __init__(self, world, goal, *, limit=2000):
        if not is_term(goal):
            raise BadGoal(goal)
        if not is_number(limit):
            raise BadValue("limit")
        self.engine = Engine(world, goal, limit)

    def next(self):
        """Go on to the next answer: ("yes", row), ("no",), ("thrown", ball) or ("limit",)."""
        result = None
        while result is None:
            result = _step(self.engine)
        return result

    def step(self):
        """Do one thing; return None, or what next returns if an answer or the end has been come to."""
        return _step(self.engine)

    def is_open(self):
        """Tell whether a choice point stands."""
        return len(self.engine.points) > 0

    def calls(self):
        """The number of calls so far."""
        return self.engine.called

    def top(self):
        """The top of the stack."""
        return self.engine.stack_top()

    def entry(self):
        """The entry level."""
        return self.engine.level

    def heap(self):
        """The list of the cells of the heap."""
        return self.engine.store.heap()

    def trail(self):
        """The list of the addresses on the trail."""
        return self.engine.store.trail()

    def frames(self):
        """The list of the frames from the present one on, as tuples (base, list of the cells in its slots)."""
        engine = self.engine
        return engine.frame_rows(engine.frame, engine.kept, engine.store.look)

    def choices(self):
        """The list of the choice points, the first one first."""
        return [point.told() for point in self.engine.points]

    def registers(self):
        """A dict from the numbers of registers to their cells."""
        return dict(self.engine.held)

    def counts(self):
        """A dict with numbers of what there was so far."""
        engine = self.engine
        found = dict(engine.greatest)
        found["calls"] = engine.called
        found["choices"] = engine.made
        found["standing"] = engine.standing_once
        return found

    def place(self):
        """Where the machine stands: None, a word, or a tuple of a key and the index of an instruction."""
        engine = self.engine
        if engine.word == "run":
            return (engine.clause.source[0], engine.line)
        return engine.word if engine.word in PLACE_WORDS else None


def _step(engine):
    """Do one thing in an engine, and count what there is behind it."""
    try:
        result = _done(engine)
    except LimitMet:
        result = ("limit",)
    except Thrown as thrown:
        result = _caught(engine, thrown.ball)
    if result is not None and result[0] != "yes":
        engine.end()
    engine.note_counts()
    return result


def _done(engine):
    """Do one thing; return None, or an answer or the end."""
    word = engine.word
    if word == "run":
        is_done = _instruction(engine)
    elif word in CONTINUATIONS:
        action = CONTINUATIONS[word]
        is_done = action(engine)
    elif word == "fail":
        is_done = fail(engine)
        if is_done is None:
            return ("no",)
    elif word == "END":
        engine.word = "fail"
        return ("yes", engine.store.read(engine.shown)[0])
    else:
        return ("no",)
    if not is_done:
        engine.word = "fail"
    return None


def _instruction(engine):
    """Do the next instruction."""
    instruction = engine.clause.instructions()[engine.line]
    engine.line += 1
    word = instruction[0]
    if word in INSTRUCTIONS:
        action = INSTRUCTIONS[word]
    else:
        action = CALL_INSTRUCTIONS[word]
    return action(engine, instruction)


def _caught(engine, ball):
    """Come back to a catch for a ball; return None if there is one, otherwise how the run ends."""
    while ball is not None:
        try:
            is_done = catch_ball(engine, ball)
            if is_done is None:
                return ("thrown", renumbered(ball))
            if not is_done:
                engine.word = "fail"
            ball = None
        except Thrown as thrown:
            ball = thrown.ball
    return None
