"""How a flat clause is read out of its code."""

from hornmill.code import told_by
from hornmill.sorts import sort_named

LEVEL_GOALS = {"keep_entry": "entry", "keep_now": "now", "cut_to": "cut", "soft_cut": "soft"}
TAKE_VARIABLES = ("take_new", "take_old")
GIVE_VARIABLES = ("give_new", "give_old", "give_unsafe")
KEY_WORDS = ("builtin", "call", "jump")


class Unread(Exception):
    """Code is not that of a clause."""

    def __init__(self):
        Exception.__init__(self, "not the code of a clause")


def grouped_code(code):
    """The instructions as tuples (instruction, list of those that tell its arguments)."""
    rows = []
    for instruction in code:
        if told_by(instruction) > 0:
            rows[-1][1].append(instruction)
        else:
            rows.append((instruction, []))
    return rows


def greatest_arity(key, code):
    """The greatest number of arguments of the head and of the goals."""
    return max([key[1]] + [instruction[1][1] for instruction in code if instruction[0] in KEY_WORDS])


class Decoder:
    """Reads what may be a flat clause out of code; whether this is its code is to be seen by compiling.

    numbers has the number of the variable of each place. inner has the compounds that were
    made ahead of those in which they stand, by their registers; each is taken once, as
    compiled code does, so what is read is not greater than the code.
    """

    def __init__(self, key, code):
        self.key = key
        self.rows = grouped_code(code)
        self.many = greatest_arity(key, code)
        self.numbers = {}
        self.fresh = 0
        self.inner = {}
        self.laid = {}
        self.goals = []

    def decoded(self):
        """A tuple (key, args, goals)."""
        args = self._head()
        for instruction, told in self.rows:
            self._goal_part(instruction, told)
        return (self.key, args, tuple(self.goals))

    def _new(self):
        """A variable that stands nowhere else."""
        self.fresh += 1
        return (self.fresh - 1,)

    def _variable(self, place):
        """The variable of a place."""
        if place not in self.numbers:
            self.numbers[place] = self._new()[0]
        return (self.numbers[place],)

    def _head(self):
        """The arguments of the head."""
        found = {}
        structures = []
        for instruction, told in self.rows:
            word = instruction[0]
            if word in TAKE_VARIABLES:
                found[instruction[2]] = self._variable(instruction[1])
            elif word == "take_const":
                found[instruction[2]] = instruction[1]
            elif word == "take_struct":
                structures.append((instruction, told))
        # Behind a structure stand those within it, so from the end each one is there when it is needed.
        for instruction, told in reversed(structures):
            self._keep(instruction[3], self._compound(instruction, told), found)
        return tuple([found[i] if i in found else self._new() for i in range(1, self.key[1] + 1)])

    def _keep(self, i, term, found):
        """Keep a compound that was made in a register, which is an argument or stands within another one."""
        where = found if i <= self.many else self.inner
        if i in where:
            raise Unread()
        where[i] = term

    def _compound(self, instruction, told):
        """The compound that an instruction begins."""
        inner = []
        for one in told:
            if one[0] == "arg_skip":
                inner.extend([self._new() for _ in range(one[1])])
            elif one[0] == "arg_const":
                inner.append(one[1])
            else:
                inner.append(self._at(one[1]))
        return (instruction[1], *inner)

    def _at(self, place):
        """The compound or the variable of a place."""
        if place[0] == "x" and place[1] in self.inner:
            return self.inner.pop(place[1])
        return self._variable(place)

    def _goal_part(self, instruction, told):
        """Read an instruction of the goals."""
        word = instruction[0]
        if word in LEVEL_GOALS:
            self.goals.append((LEVEL_GOALS[word], self._variable(instruction[1])))
        elif word in GIVE_VARIABLES:
            self.laid[instruction[2]] = self._variable(instruction[1])
        elif word == "give_const":
            self.laid[instruction[2]] = instruction[1]
        elif word == "give_struct":
            self._keep(instruction[3], self._compound(instruction, told), self.laid)
        elif word in KEY_WORDS:
            self._finish(instruction[1])

    def _finish(self, key):
        """Read a goal whose arguments are laid ready."""
        if len(self.laid) != key[1]:
            raise Unread()
        args = []
        for i in range(1, key[1] + 1):
            if i not in self.laid:
                raise Unread()
            args.append(self.laid[i])
        self.laid = {}
        self.goals.append(("call" if sort_named(key) is None else "do", key, tuple(args)))
