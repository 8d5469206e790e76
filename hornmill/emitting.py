"""How the code of a clause is written."""

from hornmill.flatforms import LEVEL_WORDS, is_call
from hornmill.layout import Layout
from hornmill.terms import is_variable

LEVEL_INSTRUCTIONS = {"entry": "keep_entry", "now": "keep_now", "cut": "cut_to", "soft": "soft_cut"}


def is_compound(term):
    """Tell whether a term is a compound."""
    return isinstance(term, tuple) and len(term) > 1


def most_arguments(flat):
    """The greatest number of arguments of the head and of the goals that have arguments."""
    return max([len(flat[1])] + [len(goal[2]) for goal in flat[2] if goal[0] not in LEVEL_WORDS])


class Emitter:
    """Writes the code of a flat clause.

    places has the register or the slot of each variable that the code has named, words
    the instruction that named it first.
    """

    def __init__(self, flat):
        self.layout = Layout(flat)
        self.slots_of_frame = {k: at + 1 for at, k in enumerate(self.layout.lasting())}
        self.is_framed = len(self.layout.rows) > 1
        self.last_register = most_arguments(flat)
        self.code = []
        self.places = {}
        self.words = {}
        self._write(flat)

    def _write(self, flat):
        """Write the whole code."""
        if self.is_framed:
            self.code.append(("frame", len(self.slots_of_frame)))
        self._write_head(flat[1])
        goals = flat[2]
        for chunk, row in enumerate(self.layout.rows):
            for goal in row:
                self._write_goal(goal, chunk)
        if goals == () or not is_call(goals[-1]):
            self._leave_frame()
            self.code.append(("return",))

    def _leave_frame(self):
        """Leave the frame, if there is one."""
        if self.is_framed:
            self.code.append(("unframe",))

    def _new_register(self):
        """A register that was not given out yet."""
        self.last_register += 1
        return self.last_register

    def _named(self, term, word):
        """The place of a variable, which an instruction with this word names first if none has so far."""
        k = term[0]
        if k not in self.places:
            slot = self.slots_of_frame.get(k)
            self.places[k] = ("x", self._new_register()) if slot is None else ("y", slot)
            self.words[k] = word
        return self.places[k]

    def _write_head(self, args):
        """Write the arguments of the head: the variables, then the others."""
        for at, term in enumerate(args):
            if is_variable(term) and self.layout.times[term[0]] > 1:
                word = "take_old" if term[0] in self.places else "take_new"
                self.code.append((word, self._named(term, word), at + 1))
        for at, term in enumerate(args):
            if is_compound(term):
                self._take_compound(term, at + 1)
            elif not is_variable(term):
                self.code.append(("take_const", term, at + 1))

    def _take_compound(self, term, i):
        """Write a compound of the head, and behind it those within it, as they are come to."""
        waiting = [(term, i)]
        taken = 0
        while taken < len(waiting):
            term, i = waiting[taken]
            taken += 1
            self.code.append(("take_struct", term[0], len(term) - 1, i))
            for inner in term[1:]:
                if is_compound(inner):
                    waiting.append((inner, self._new_register()))
                    self.code.append(("arg_new", ("x", waiting[-1][1])))
                else:
                    self._tell(inner)

    def _tell(self, term):
        """Write an argument of a structure that is no compound."""
        if not is_variable(term):
            self.code.append(("arg_const", term))
        elif self.layout.times[term[0]] == 1:
            self._skip()
        elif term[0] not in self.places:
            self.code.append(("arg_new", self._named(term, "arg_new")))
        else:
            word = "arg_old" if self.words[term[0]] == "arg_new" else "arg_local"
            self.code.append((word, self.places[term[0]]))

    def _skip(self):
        """Pass over an argument, together with those right ahead of it."""
        many = 0
        if self.code[-1][0] == "arg_skip":
            many = self.code.pop()[1]
        self.code.append(("arg_skip", many + 1))

    def _write_goal(self, goal, chunk):
        """Write a goal of a chunk."""
        if goal[0] in LEVEL_INSTRUCTIONS:
            word = LEVEL_INSTRUCTIONS[goal[0]]
            self.code.append((word, self._named(goal[1], word)))
            return
        key, args = goal[1:]
        for at, term in enumerate(args):
            if is_variable(term):
                word = self._giving(term, goal, chunk)
                self.code.append((word, self._named(term, word), at + 1))
            elif is_compound(term):
                self._give_compound(term, at + 1)
            else:
                self.code.append(("give_const", term, at + 1))
        self._finish(goal, key, chunk)

    def _giving(self, term, goal, chunk):
        """The word of the instruction that gives a variable to a goal as an argument."""
        k = term[0]
        if k not in self.places:
            return "give_new"
        is_given_up = is_call(goal) and self.layout.last[k] == chunk
        if is_given_up and k in self.slots_of_frame and self.words[k] == "give_new":
            return "give_unsafe"
        return "give_old"

    def _give_compound(self, term, i):
        """Write a compound of a goal, ahead of it those within it."""
        made = []
        waiting = [(term, False)]
        while waiting:
            term, is_ready = waiting.pop()
            inner = [one for one in term[1:] if is_compound(one)]
            if not is_ready:
                waiting.append((term, True))
                waiting.extend([(one, False) for one in inner[::-1]])
                continue
            places = made[len(made) - len(inner):]
            del made[len(made) - len(inner):]
            made.append(self._new_register() if waiting else i)
            self.code.append(("give_struct", term[0], len(term) - 1, made[-1]))
            for one in term[1:]:
                if is_compound(one):
                    self.code.append(("arg_old", ("x", places.pop(0))))
                else:
                    self._tell(one)

    def _finish(self, goal, key, chunk):
        """Write what does a goal whose arguments are laid ready."""
        if not is_call(goal):
            self.code.append(("builtin", key))
        elif chunk + 1 == len(self.layout.rows):
            self._leave_frame()
            self.code.append(("jump", key))
        else:
            self.code.append(("call", key, self.layout.needed(chunk)))


def code_of(flat):
    """The code of what is known to be a flat clause."""
    return Emitter(flat).code
