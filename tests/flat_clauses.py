"""Flat clauses by chance, and a slow way to their code that follows [10.3] to [10.5] word by word."""

from hornmill.builtins import sort_of
from hornmill.flat import flat_goal, flattened
from tests.support import slow_renumbered, slow_replaced, slow_variables

LEVELS = ("entry", "now", "cut", "soft")
KEYS = [("p", 1), ("q", 2), ("r", 3), ("s", 0), ("bagof", 3), (4, 2), (-12, 1), (7, 9), (0, 0)]
DO_KEYS = [("fail", 0), ("=", 2), ("is", 2), ("var", 1), ("nl", 0), ("call", 1), ("call", 3), ("catch", 3), ("arg", 3), ("throw", 1),
           ("between", 3), ("findall", 3), ("findall", 4), ("true", 0), (-1, 6), (-2, 4), (-4, 3), ("sub_atom", 5)]


def is_variable(term):
    return isinstance(term, tuple) and len(term) == 1


def is_compound(term):
    return isinstance(term, tuple) and len(term) > 1


def told(goal):
    return goal[1:] if goal[0] in LEVELS else goal[2]


def occurrences(term):
    """All variables of a term, as often as they stand in it."""
    if is_variable(term):
        return [term]
    return [one for inner in term[1:] for one in occurrences(inner)] if is_compound(term) else []


def renumbered_flat(flat):
    key, args, goals = flat
    whole = ("", ("", "") + tuple(args), *[("", "") + tuple(told(goal)) for goal in goals])
    whole = slow_renumbered(whole)
    made = []
    for goal, row in zip(goals, whole[2:]):
        made.append((goal[0], row[2]) if goal[0] in LEVELS else (goal[0], goal[1], tuple(row[2:])))
    return (key, tuple(whole[1][2:]), tuple(made))


def slow_is_call(goal):
    return goal[0] == "call" or (goal[0] == "do" and sort_of(goal[1]) != "one")


def slow_chunks(flat):
    found, row = [], []
    for goal in flat[2]:
        row.append(goal)
        if slow_is_call(goal):
            found.append(row)
            row = []
    return found + [row] if row or not found else found


def chunks_with(flat):
    """For each variable the list of the chunks in which it stands, in the order of first occurrences."""
    found = {}
    chunks = slow_chunks(flat)
    for at, chunk in enumerate(chunks):
        terms = list(flat[1]) if at == 0 else []
        for goal in chunk:
            terms += told(goal)
        for term in terms:
            for one in occurrences(term):
                if at not in found.setdefault(one, []):
                    found[one].append(at)
    return found


def slow_slots(flat):
    where = chunks_with(flat)
    rest = [one for one in where if len(where[one]) > 1]
    found = []
    for at in range(len(slow_chunks(flat)), -1, -1):
        found += [one for one in rest if where[one][-1] == at]
    return found


def slow_trims(flat):
    where = chunks_with(flat)
    return [sum(1 for one in slow_slots(flat) if where[one][-1] > at)
            for at, chunk in enumerate(slow_chunks(flat)) if chunk and slow_is_call(chunk[-1])]


class SlowCompiler:
    def __init__(self, flat):
        self.key, self.args, self.goals = flat
        self.flat = flat
        self.code = []
        self.calls = [at for at, goal in enumerate(self.goals) if slow_is_call(goal)]
        self.frame = any(at < len(self.goals) - 1 for at in self.calls)
        self.slots = slow_slots(flat)
        self.next = max([len(self.args)] + [len(goal[2]) for goal in self.goals if goal[0] not in LEVELS])
        everything = [one for term in self.args for one in occurrences(term)]
        for goal in self.goals:
            everything += [one for term in told(goal) for one in occurrences(term)]
        self.single = {one for one in everything if everything.count(one) == 1}
        self.place, self.how = {}, {}
        self.unsafe = set()

    def register(self):
        self.next += 1
        return self.next

    def name(self, one, how):
        """Whether this is the first time that the code names a variable."""
        if one in self.place:
            return False
        self.place[one] = ("y", self.slots.index(one) + 1) if one in self.slots else ("x", self.register())
        self.how[one] = how
        return True

    def run(self):
        if self.frame:
            self.code.append(("frame", len(self.slots)))
        for at, term in enumerate(self.args):
            if is_variable(term) and term not in self.single:
                word = "take_new" if self.name(term, "take_new") else "take_old"
                self.code.append((word, self.place[term], at + 1))
        for at, term in enumerate(self.args):
            if is_compound(term):
                row = [(at + 1, term)]
                while row:
                    self.head_structure(row)
            elif not is_variable(term):
                self.code.append(("take_const", term, at + 1))
        for at, goal in enumerate(self.goals):
            self.goal(at, goal)
        if not self.goals or not slow_is_call(self.goals[-1]):
            self.code += [("unframe",)] * self.frame + [("return",)]
        return self.code

    def argument(self, term, out):
        if not is_variable(term):
            out.append(("arg_const", term))
        elif term in self.single:
            out.append(("arg_skip", 1))
        elif self.name(term, "arg_new"):
            out.append(("arg_new", self.place[term]))
        else:
            out.append(("arg_old" if self.how[term] == "arg_new" else "arg_local", self.place[term]))

    def flush(self, out):
        """Put neighbours that are passed over together."""
        for one in out:
            if one[0] == "arg_skip" and self.code[-1][0] == "arg_skip":
                self.code[-1] = ("arg_skip", self.code[-1][1] + 1)
            else:
                self.code.append(one)

    def head_structure(self, row):
        i, term = row.pop(0)
        self.code.append(("take_struct", term[0], len(term) - 1, i))
        out = []
        for inner in term[1:]:
            if is_compound(inner):
                r = self.register()
                out.append(("arg_new", ("x", r)))
                row.append((r, inner))
            else:
                self.argument(inner, out)
        self.flush(out)

    def goal_structure(self, term, i):
        inner = {at: self.goal_structure(one, None) for at, one in enumerate(term) if at > 0 and is_compound(one)}
        i = self.register() if i is None else i
        self.code.append(("give_struct", term[0], len(term) - 1, i))
        out = []
        for at, one in enumerate(term):
            if at in inner:
                out.append(("arg_old", ("x", inner[at])))
            elif at > 0:
                self.argument(one, out)
        self.flush(out)
        return i

    def goal(self, at, goal):
        word = {"entry": "keep_entry", "now": "keep_now", "cut": "cut_to", "soft": "soft_cut"}.get(goal[0])
        if word:
            self.name(goal[1], word)
            self.code.append((word, self.place[goal[1]]))
            return
        last = slow_is_call(goal)
        chunk = sum(1 for one in self.calls if one < at)
        for i, term in enumerate(goal[2], 1):
            if is_compound(term):
                self.goal_structure(term, i)
            elif not is_variable(term):
                self.code.append(("give_const", term, i))
            elif self.name(term, "give_new"):
                self.code.append(("give_new", self.place[term], i))
            elif last and term in self.slots and self.how[term] == "give_new" and chunks_with(self.flat)[term][-1] == chunk:
                self.unsafe.add(term[0])
                self.code.append(("give_unsafe", self.place[term], i))
            else:
                self.code.append(("give_old", self.place[term], i))
        if not last:
            self.code.append(("builtin", goal[1]))
        elif at == len(self.goals) - 1:
            self.code += [("unframe",)] * self.frame + [("jump", goal[1])]
        else:
            self.code.append(("call", goal[1], slow_trims(self.flat)[self.calls.index(at)]))


def slow_compiled(flat):
    return SlowCompiler(flat).run()


def slow_unsafe(flat):
    compiler = SlowCompiler(flat)
    compiler.run()
    return sorted(compiler.unsafe)


# By chance.


def some_term(rng, numbers, depth=3):
    kind = rng.randrange(8 if depth else 5)
    if kind < 3:
        return (rng.choice(numbers),)
    if kind < 5:
        return rng.choice(["a", "b", "[]", 0, -7])
    return (rng.choice(["f", "g", "."]),) + tuple(some_term(rng, numbers, depth - 1) for _ in range(rng.choice([1, 1, 2, 2, 2, 3, 8])))


def some_level_goals(rng, levels, fresh, entries):
    """A goal of levels, which may make a new one."""
    if levels and rng.random() < .5:
        return (rng.choice(["cut", "soft"]), rng.choice(levels))
    levels.append((fresh,))
    return ("entry" if entries and rng.random() < .7 else "now", levels[-1])


def some_flat(rng):
    """A flat clause that no clause need have: with levels anywhere, and any keys."""
    numbers = rng.sample(range(60), rng.choice([1, 2, 4, 9]))
    levels = []
    key = rng.choice(KEYS)
    args = [some_term(rng, numbers, rng.choice([0, 1, 3])) for _ in range(key[1])]
    if isinstance(key[0], int) and args and rng.random() < .5:
        args[rng.randrange(len(args))] = (100,)
        levels.append((100,))
    goals, called = [], False
    for at in range(rng.choice([0, 1, 1, 2, 3, 4, 6])):
        if rng.random() < .25:
            goals.append(some_level_goals(rng, levels, 101 + at, not called))
            continue
        word, inner = rng.choice([("call", rng.choice(KEYS)), ("do", rng.choice(DO_KEYS))])
        terms = [some_term(rng, numbers, rng.choice([0, 1, 3])) for _ in range(inner[1])]
        if word == "call" and isinstance(inner[0], int) and levels and terms and rng.random() < .6:
            terms[-1] = rng.choice(levels)
        goals.append((word, inner, tuple(terms)))
        called = called or slow_is_call(goals[-1])
    return (key, tuple(args), tuple(goals))


def some_goal(rng, depth):
    kind = rng.randrange(14 if depth else 7)
    if kind < 2:
        return ("p", some_term(rng, range(5), 2))
    if kind < 7:
        return [("q", some_term(rng, range(5), 1), some_term(rng, range(5), 2)), "!", (rng.randrange(5),), "s",
                ("is", (rng.randrange(5),), ("+", 1, (rng.randrange(5),)))][kind - 2]
    one, other, third = [some_goal(rng, depth - 1) for _ in range(3)]
    return [(",", one, other), (",", one, other), (";", one, other), (";", ("->", one, other), third), (";", ("*->", one, other), third),
            ("\\+", one), ("->", one, other)][kind - 7]


def flats_of_clauses(rng):
    """The flat clauses of a clause by chance."""
    body = some_goal(rng, 4)
    if rng.randrange(4) == 0:
        return flat_goal(body, -11)
    return flattened((":-", ("p", some_term(rng, range(5))), body), rng.randrange(3))


def with_other_numbers(rng, flat):
    """The flat clause with other numbers for its variables."""
    table = dict(zip(range(200), [(k,) for k in rng.sample(range(1000), 200)]))
    goals = tuple((goal[0], slow_replaced(goal[1], table)) if goal[0] in LEVELS
                  else (goal[0], goal[1], tuple(slow_replaced(term, table) for term in goal[2])) for goal in flat[2])
    return (flat[0], tuple(slow_replaced(term, table) for term in flat[1]), goals)


def variables(flat):
    return slow_variables(("", "", *flat[1], *[("", "", *told(goal)) for goal in flat[2]]))
