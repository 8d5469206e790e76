"""Runs of goals by their plain meaning."""

from hornmill.bodies import key_of
from hornmill.builtins import builtin_row, sort_of
from hornmill.control import CONTROL, calling, things_of
from hornmill.faults import error_ball
from hornmill.lists import listed
from hornmill.program import can_begin
from hornmill.tasks import Choice, LimitMet, Task, Thrown
from hornmill.terms import numbers_in, renumbered
from hornmill.trees import Built, Free, end_of, join, make, match, read, unlink


class Run:
    """A run of a goal in a world.

    task is the next task to be done, stack the row of choices that stand.
    """

    def __init__(self, world, goal, limit):
        self.world = world
        self.limit = limit
        self.links = []
        self.stack = []
        self.called = 0
        self.made = 0
        self.greatest = 0
        self.has_begun = False
        known = {}
        self.task = calling(make(goal, known), 0, None)
        self.shown = [known[k] for k in numbers_in(goal)]

    def advance(self):
        """Go on to the next answer, or to the end."""
        try:
            result = self._result()
        except LimitMet:
            result = ("limit",)
        if result[0] != "yes":
            # Without choices it fails each time from now on.
            self.stack.clear()
        return result

    def _result(self):
        """The next answer, or how the run ends."""
        if self.has_begun and not self._fail():
            return ("no",)
        self.has_begun = True
        while self.task is not None:
            try:
                is_done = self._step()
            except Thrown as thrown:
                if not self._catch(thrown.ball):
                    return ("thrown", renumbered(thrown.ball))
                is_done = True
            if not is_done and not self._fail():
                return ("no",)
        return ("yes", read(self.shown)[0])

    def _step(self):
        """Do the next task; return False if it fails."""
        task = self.task
        self.task = task.behind
        if not self.stack:
            # Nothing can be undone any more.
            self.links.clear()
        if task.word == "goal":
            return self._goal(task)
        if task.word == "collect":
            self.stack[task.level].needs[0].append(read([task.goal])[0][0])
            return False
        if task.word == "cut":
            self.cut(task.level)
        elif task.word == "soft":
            self._strike(task.level)
        elif self.height() == task.level + 1:
            # The end of a catch behind which no choice is left.
            self.cut(task.level)
        return True

    def _goal(self, task):
        """Do the goal of a task."""
        key = key_of(task.goal)
        sort = sort_of(key)
        if sort == "control":
            action = CONTROL[key]
            return action(self, task)
        things = things_of(task)
        if sort is None:
            return self._call(key, things, task.behind)
        if key == ("=", 2):
            # As its row has it, but without reading terms that may be great.
            return join(things[0], things[1], self.links)
        row, variables = self._row(key, things, 0)
        if row[0] == "none":
            return False
        if row[2] is not None:
            self.choose("rows", (key, things, row[2]), task.behind)
        return self._join(row[1], variables)

    def _call(self, key, things, behind):
        """Call a predicate of the world or of the library."""
        height = self.height()
        library = self.world.of_library(key)
        if library is not None:
            return self._enter(library, things, height, behind)
        if self.called == self.limit:
            raise LimitMet()
        self.called += 1
        clauses = self.world.kept_of(key)
        if clauses is None:
            name, arity = key
            raise Thrown(error_ball(("existence_error", "procedure", ("/", name, arity)), name, arity))
        root = _root_of(things[0]) if things else None
        tried = [kept for kept in clauses if can_begin(kept, root)]
        if tried == []:
            return False
        if len(tried) > 1:
            self.choose("clauses", (tried, 1, things), behind)
        return self._enter(tried[0], things, height, behind)

    def _enter(self, kept, things, level, behind):
        """Unify the arguments of a call with those of the head of a clause; go on with its body."""
        known = {}
        head, body = kept.clause[1:]
        if isinstance(head, tuple) and not match(head[1:], things, known, self.links):
            return False
        self.task = Task("goal", body, known, level, behind)
        return True

    def _row(self, key, things, k):
        """A row of a builtin, and the variables of its arguments by their numbers."""
        terms, variables = read(things)
        row = builtin_row(self.world, key, terms, k)
        if row[0] == "throw":
            raise Thrown(row[1])
        return row, variables

    def _join(self, pairs, variables):
        """Unify the pairs of a row."""
        known = dict(enumerate(variables))
        for one, other in pairs:
            if not join(make(one, known), make(other, known), self.links):
                return False
        return True

    def height(self):
        """The number of choices that stand."""
        return len(self.stack)

    def choose(self, word, needs, behind):
        """Make a choice."""
        self.stack.append(Choice(word, needs, behind, len(self.links)))
        self.made += 1
        self.greatest = max(self.greatest, len(self.stack))

    def cut(self, level):
        """Take off the choices above a level."""
        del self.stack[level:]

    def _strike(self, level):
        """Strike out the choice right above a level."""
        if self.height() == level + 1:
            self.cut(level)
        else:
            choice = self.stack[level]
            choice.word = "struck"

    def _fail(self):
        """Go on with the last choice; return False if there is none."""
        while self.stack:
            choice = self.stack[-1]
            unlink(self.links, choice.length)
            if self._resume(choice):
                return True
        return False

    def _resume(self, choice):
        """Go on with the last choice that stands; return False if it fails."""
        if choice.word == "clauses":
            return self._next_clause(choice)
        if choice.word == "rows":
            return self._next_row(choice)
        self.stack.pop()
        self.task = choice.behind
        if choice.word == "findall":
            results, found, end = choice.needs
            things = [make(result, {}) for result in results]
            known = {k: thing for k, thing in enumerate(things + [end])}
            many = len(things)
            whole = make(listed([(k,) for k in range(many)], (many,)), known)
            return join(whole, found, self.links)
        return choice.word == "goal"

    def _next_clause(self, choice):
        """Try the next clause of a call."""
        tried, at, things = choice.needs
        level = self.height() - 1
        if at + 1 == len(tried):
            self.stack.pop()
        else:
            choice.needs = (tried, at + 1, things)
        return self._enter(tried[at], things, level, choice.behind)

    def _next_row(self, choice):
        """Take the next row of a builtin."""
        key, things, k = choice.needs
        row, variables = self._row(key, things, k)
        if row[0] == "none" or row[2] is None:
            self.stack.pop()
        else:
            choice.needs = (key, things, row[2])
        self.task = choice.behind
        return row[0] == "row" and self._join(row[1], variables)

    def _catch(self, ball):
        """Go on with the innermost active catch that catches a ball; return False if none does."""
        task = self.task
        while task is not None:
            if task.word == "leave":
                unlink(self.links, self.stack[task.level].length)
                self.cut(task.level)
                catcher, recovery = task.goal
                if join(catcher, make(ball, {}), self.links):
                    self.task = calling(recovery, self.height(), task.behind)
                    return True
            task = task.behind
        return False


def _root_of(thing):
    """What a thing is at its root; None for a variable."""
    thing = end_of(thing)
    if isinstance(thing, Free):
        return None
    return (thing.name, len(thing.inner) + 1) if isinstance(thing, Built) else (thing, 0)
