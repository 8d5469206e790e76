"""How goals are flattened."""

from hornmill.bodies import key_of
from hornmill.sorts import sort_named
from hornmill.terms import arguments_of, is_variable, numbers_in, parts_of, replaced

# The sides of constructs in which cuts are open.
OPEN_SIDES = {(",", 2): (1, 2), (";", 2): (1, 2), ("->", 2): (2,), ("*->", 2): (2,)}


def is_open(goal):
    """Tell whether a cut is open in a goal."""
    waiting = [goal]
    while waiting:
        one = waiting.pop()
        if one == "!":
            return True
        waiting.extend([one[side] for side in OPEN_SIDES.get(key_of(one), ())])
    return False


def without_short_forms(goal):
    """What once, ignore and forall mean; other goals mean themselves."""
    key = key_of(goal)
    if key == ("once", 1):
        return ("->", goal[1], "true")
    if key == ("ignore", 1):
        return (";", ("->", goal[1], "true"), "true")
    if key == ("forall", 2):
        return ("\\+", (",", goal[1], ("\\+", goal[2])))
    return goal


def _times(term):
    """A dict from the numbers of the variables of a term to how often they stand in it."""
    found = {}
    for part in parts_of(term):
        if is_variable(part):
            found[part[0]] = found.get(part[0], 0) + 1
    return found


class Flattener:
    """Flattens a clause with some arguments and a body.

    integer is the name of the next new predicate, stride leads to the one behind it. flats
    are the flat clauses so far, before their variables are numbered.

    What is still to be flattened waits in rows, as tuples (goal, level, goals): goals is the
    list to which what is made of the goal goes. With None for the goal there is a goal that
    is made already in the place of the level.
    """

    def __init__(self, args, body, integer, stride):
        whole = ("", "", *args, body)
        self.head_terms = args
        self.body = body
        self.integer = integer
        self.stride = stride
        self.times = _times(whole)
        self.order = numbers_in(whole)
        self.fresh = max(self.order, default=-1) + 1
        self.flats = []

    def flatten(self, key):
        """The flat clause of this key and, behind it, those of new predicates."""
        goals = self._begin(key, self.head_terms)
        level = None
        if is_open(self.body):
            level = self._new_level()
            goals.append(("entry", level))
        waiting = [(self.body, level, goals)]
        while waiting:
            goal, level, goals = waiting.pop()
            if goal is None:
                goals.append(level)
            else:
                waiting.extend(self._parts(without_short_forms(goal), level, goals)[::-1])
        return [numbered_flat(key, args, goals) for key, args, goals in self.flats]

    def _begin(self, key, args):
        """Begin a flat clause, and return the list to which its goals go."""
        goals = []
        self.flats.append((key, args, goals))
        return goals

    def _new_level(self):
        """A variable of its own for a level."""
        self.fresh += 1
        return (self.fresh - 1,)

    def _parts(self, goal, level, goals):
        """What a goal is flattened to."""
        key = key_of(goal)
        if key == ("true", 0):
            return []
        if key == ("!", 0):
            return [(None, ("cut", level), goals)]
        if key == (",", 2):
            return [(goal[1], level, goals), (goal[2], level, goals)]
        if key == ("->", 2):
            now = self._new_level()
            made = [(None, ("now", now), goals), (goal[1], now, goals), (None, ("cut", now), goals)]
            return made + [(goal[2], level, goals)]
        if key == ("*->", 2):
            return self._test(goal[1], goals) + [(goal[2], level, goals)]
        if key == (";", 2) or key == ("\\+", 1):
            return self._new_predicate(goal, level, goals)
        word = "call" if sort_named(key) is None else "do"
        return [(None, (word, key, arguments_of(goal)), goals)]

    def _test(self, goal, goals):
        """What a condition is flattened to, whose cuts stay within it."""
        if not is_open(goal):
            return [(goal, None, goals)]
        now = self._new_level()
        return [(None, ("now", now), goals), (goal, now, goals)]

    def _new_predicate(self, goal, level, goals):
        """What the two clauses of a new predicate, which stands for a goal, are flattened to."""
        inner = _times(goal)
        args = [(k,) for k in self.order if inner.get(k, self.times[k]) < self.times[k]]
        if is_open(goal):
            args.append(level)
        else:
            level = None
        key = (self.integer, len(args))
        self.integer += self.stride
        goals.append(("call", key, tuple(args)))
        first = self._begin(key, tuple(args))
        second = self._begin(key, tuple(args))
        if goal[0] == "\\+":
            return self._entry_test(goal[1], "cut", first) + [(None, ("do", ("fail", 0), ()), first)]
        one, other = goal[1:]
        if key_of(one) == ("->", 2):
            parts = self._entry_test(one[1], "cut", first) + [(one[2], level, first)]
        elif key_of(one) == ("*->", 2):
            parts = self._entry_test(one[1], "soft", first) + [(one[2], level, first)]
        else:
            parts = [(one, level, first)]
        return parts + [(other, level, second)]

    def _entry_test(self, goal, word, goals):
        """What a condition is flattened to whose success cuts, or strikes out, the other clause."""
        entry = self._new_level()
        return [(None, ("entry", entry), goals)] + self._test(goal, goals) + [(None, (word, entry), goals)]


def numbered_flat(key, args, goals):
    """The flat clause with its variables numbered by their first occurrence."""
    terms = list(args)
    for goal in goals:
        terms.extend(goal[2] if goal[0] in ("call", "do") else goal[1:])
    table = {k: (at,) for at, k in enumerate(numbers_in(("", "", *terms)))}
    made = []
    for goal in goals:
        if goal[0] in ("call", "do"):
            made.append((goal[0], goal[1], tuple([replaced(term, table) for term in goal[2]])))
        else:
            made.append((goal[0], replaced(goal[1], table)))
    return (key, tuple([replaced(term, table) for term in args]), tuple(made))
