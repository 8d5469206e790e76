"""A slow machine for flat clauses [3.4], against which queries are tested.

It knows no constructs, just levels: so a query and a run of this kind agree only if goals
mean the same to flat.py and to the plain meaning.
"""

from hornmill.builtins import builtin_row, sort_of
from hornmill.collects import library
from hornmill.flat import flat_goal
from tests.support import list_of, slow_renumbered, slow_replaced, slow_variables

LIBRARY = {flat[0]: [flat] for flat in library()}


class Ball(Exception):
    pass


class Limit(Exception):
    pass


def error(formal, name, arity):
    return ("error", formal, ("/", name, arity))


class FlatRun:
    def __init__(self, world, goal, limit=2000):
        self.world, self.limit = world, limit
        self.bound, self.fresh = {}, 10 ** 6
        self.choices, self.made, self.most, self.called = [], 0, 0, 0
        self.names = -11
        self.news = {}
        self.over = self.begun = False
        self.goal = slow_renumbered(goal)
        self.shown = slow_variables(self.goal)
        self.rest = ((("do", ("call", 1), (self.goal,)), 0), None)

    # Terms.

    def walk(self, term):
        while isinstance(term, tuple) and len(term) == 1 and term[0] in self.bound:
            term = self.bound[term[0]]
        return term

    def full(self, term):
        term = self.walk(term)
        if isinstance(term, tuple) and len(term) > 1:
            return (term[0],) + tuple(self.full(inner) for inner in term[1:])
        return term

    def unify(self, one, other):
        one, other = self.full(one), self.full(other)
        if one == other:
            return True
        if isinstance(other, tuple) and len(other) == 1:
            one, other = other, one
        if isinstance(one, tuple) and len(one) == 1:
            if one[0] in slow_variables(other):
                return False
            self.bound[one[0]] = other
            return True
        if not isinstance(one, tuple) or not isinstance(other, tuple) or len(one) != len(other) or one[0] != other[0]:
            return False
        return all(self.unify(a, b) for a, b in zip(one[1:], other[1:]))

    def renamed(self, *terms):
        """Copies with new variables, the same ones in all."""
        table = {}
        for k in slow_variables(("", "", *terms)):
            table[k] = (self.fresh,)
            self.fresh += 1
        return [slow_replaced(term, table) for term in terms]

    # The run.

    def next(self):
        if self.over:
            return ("no",)
        try:
            result = self.go_on()
        except Limit:
            result = ("limit",)
        if result[0] != "yes":
            self.over, self.choices = True, []
        return result

    def go_on(self):
        if self.begun and not self.fail():
            return ("no",)
        self.begun = True
        while self.rest is not None:
            (goal, entry), self.rest = self.rest
            try:
                done = self.do(goal, entry)
            except Ball as ball:
                if not self.caught(ball.args[0]):
                    return ("thrown", slow_renumbered(ball.args[0]))
                done = True
            if not done and not self.fail():
                return ("no",)
        row = slow_renumbered(("", "") + tuple(self.full((k,)) for k in self.shown))
        return ("yes", list(row[2:]))

    def choose(self, kind, data):
        self.choices.append([kind, data, self.rest, dict(self.bound)])
        self.made += 1
        self.most = max(self.most, len(self.choices))

    def fail(self):
        while self.choices:
            kind, data, rest, bound = self.choices[-1]
            self.bound, self.rest = dict(bound), rest
            if kind == "clauses":
                flats, args, entry = data
                if len(flats) == 1:
                    self.choices.pop()
                else:
                    self.choices[-1][1] = (flats[1:], args, entry)
                if self.enter(flats[0], args, entry):
                    return True
            elif kind == "rows":
                key, args, k = data
                if self.row(key, args, k):
                    return True
            else:
                self.choices.pop()
                if kind == "findall":
                    results, found, end = data
                    results = [self.renamed(one)[0] for one in results]
                    if self.unify(list_of(results, end), found):
                        return True
        return False

    def do(self, goal, entry):
        word = goal[0]
        height = len(self.choices)
        if word == "call":
            return self.call(goal[1], goal[2])
        if word == "do":
            return self.construct(goal[1], goal[2])
        if word == "leave":
            if height == goal[1] + 1:
                self.choices.pop()
            return True
        if word == "collect":
            self.choices[goal[1]][1][0].append(self.full(goal[2]))
            return False
        variable = goal[1]
        if word == "entry":
            return self.unify(variable, entry)
        if word == "now":
            return self.unify(variable, height)
        level = self.walk(variable)
        assert type(level) is int
        if word == "cut":
            del self.choices[level:]
        elif level == height - 1:
            self.choices.pop()
        elif level < height:
            self.choices[level][0] = "struck"
        return True

    def call(self, key, args):
        height = len(self.choices)
        if isinstance(key[0], int):
            flats = self.news[key] if key in self.news else self.world.flat(key)
        elif key in LIBRARY:
            flats = LIBRARY[key]
        else:
            if self.called == self.limit:
                raise Limit()
            self.called += 1
            if key not in self.world.known():
                raise Ball(error(("existence_error", "procedure", ("/", *key)), *key))
            flats = self.world.flat(key)
        flats = [flat for flat in flats if self.may_begin(flat, args)]
        if not flats:
            return False
        if len(flats) > 1:
            self.choose("clauses", (flats[1:], args, height))
        return self.enter(flats[0], args, height)

    def may_begin(self, flat, args):
        if not args:
            return True
        one, other = self.walk(args[0]), flat[1][0]
        if any(isinstance(side, tuple) and len(side) == 1 for side in (one, other)):
            return True
        if isinstance(one, tuple) and isinstance(other, tuple):
            return len(one) == len(other) and one[0] == other[0]
        return one == other

    def enter(self, flat, args, entry):
        _, heads, goals = flat
        packed = tuple(goal[2] if goal[0] in ("call", "do") else goal[1:] for goal in goals)
        whole = self.renamed(("", "") + tuple(heads) + tuple(("", "") + tuple(inner) for inner in packed))[0]
        heads, packed = whole[2:2 + len(heads)], whole[2 + len(heads):]
        if not all(self.unify(one, other) for one, other in zip(args, heads)):
            return False
        for goal, inner in reversed(list(zip(goals, packed))):
            inner = inner[2:]
            made = (goal[0], goal[1], inner) if goal[0] in ("call", "do") else (goal[0], inner[0])
            self.rest = ((made, entry), self.rest)
        return True

    def construct(self, key, args):
        height = len(self.choices)
        name = key[0]
        if sort_of(key) != "control":
            return self.row(key, args, None)
        args = [self.full(one) for one in args]
        if name == "call":
            return self.jump(self.called_goal(args))
        if name == "throw":
            if isinstance(args[0], tuple) and len(args[0]) == 1:
                raise Ball(error("instantiation_error", "throw", 1))
            raise Ball(self.renamed(args[0])[0])
        if name == "catch":
            self.choose("catch", None)
            self.rest = ((("leave", height, args[1], args[2]), 0), self.rest)
            self.rest = ((("do", ("call", 1), (args[0],)), 0), self.rest)
            return True
        assert name == "findall"
        self.choose("findall", ([], args[2], args[3] if len(args) == 4 else "[]"))
        self.rest = ((("collect", height, args[0]), 0), self.rest)
        self.rest = ((("do", ("call", 1), (args[1],)), 0), self.rest)
        return True

    def called_goal(self, args):
        goal, more = args[0], tuple(args[1:])
        place = ("call", len(args))
        if isinstance(goal, tuple) and len(goal) == 1:
            raise Ball(error("instantiation_error", *place))
        if isinstance(goal, int):
            raise Ball(error(("type_error", "callable", goal), *place))
        if more:
            goal = (goal if isinstance(goal, tuple) else (goal,)) + more
        if isinstance(goal, tuple) and len(goal) > 9:
            raise Ball(error(("representation_error", "max_arity"), *place))
        try:
            return goal, flat_goal(goal, self.names)
        except ValueError:
            raise Ball(error(("type_error", "callable", goal), *place)) from None

    def jump(self, made):
        goal, flats = made
        self.names -= len({flat[0] for flat in flats})
        for flat in flats:
            self.news.setdefault(flat[0], []).append(flat)
        return self.call(flats[0][0], tuple((k,) for k in slow_variables(goal)))

    def row(self, key, args, k):
        whole = tuple(self.full(one) for one in args)
        numbers = slow_variables(("", "") + whole)
        table = {number: (at,) for at, number in enumerate(numbers)}
        told = builtin_row(self.world, key, [slow_replaced(one, table) for one in whole], 0 if k is None else k)
        if told[0] == "throw":
            raise Ball(self.renamed(told[1])[0])
        if k is not None and (told[0] == "none" or told[2] is None):
            self.choices.pop()
        if told[0] == "none":
            return False
        if k is not None and told[2] is not None:
            self.choices[-1][1] = (key, args, told[2])
        elif told[2] is not None:
            self.choose("rows", (key, args, told[2]))
        back = {at: (number,) for at, number in enumerate(numbers)}
        for number in slow_variables(("", "") + tuple(("", *pair) for pair in told[1])):
            if number not in back:
                back[number] = (self.fresh,)
                self.fresh += 1
        return all(self.unify(slow_replaced(one, back), slow_replaced(other, back)) for one, other in told[1])

    def caught(self, ball):
        rest = self.rest
        while rest is not None:
            (goal, _), rest = rest
            if goal[0] == "leave":
                self.bound = dict(self.choices[goal[1]][3])
                del self.choices[goal[1]:]
                saved = dict(self.bound)
                if self.unify(goal[2], self.renamed(ball)[0]):
                    self.rest = ((("do", ("call", 1), (goal[3],)), 0), rest)
                    return True
                self.bound = saved
        return False
