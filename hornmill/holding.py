"""What registers and slots hold while code runs, and what instructions need.

Each function of the tables notes the faults of an instruction, and returns a list of
tuples (place, what it holds then).
"""

from hornmill.code import STRUCTURES, told_by

# The words of faults; of those that apply to an instruction the first one is told.
FAULTS = ("frame", "slot", "entry", "nothing", "level", "local", "unsafe")


class Holding:
    """What all places hold ahead of an instruction.

    slots is the number of the slots of the frame, or None. made is the register of the
    structure whose arguments are told, untold how many are left, found the faults.
    """

    def __init__(self, arity):
        self.places = {("x", i): "given" for i in range(1, arity + 1)}
        self.slots = None
        self.has_called = False
        self.made = None
        self.untold = 0
        self.found = {}

    def go_on(self, instruction):
        """Go on behind an instruction; return the word of its fault, or None."""
        self.found = {}
        word = instruction[0]
        if word in MOVES:
            action = MOVES[word]
        else:
            action = FLOWS[word]
        changes = action(self, instruction)
        for fault in FAULTS:
            if fault in self.found:
                return fault
        for place, what in changes:
            self.places[place] = what
        self._tell(instruction)
        return None

    def _tell(self, instruction):
        """Note that arguments of a structure are told."""
        if instruction[0] in STRUCTURES:
            self.untold = instruction[2]
            self.made = None
            if instruction[0] == "give_struct":
                self.made = ("x", instruction[3])
                if self.made in self.places:
                    del self.places[self.made]
        many = told_by(instruction)
        self.untold -= many
        if many > 0 and self.untold == 0 and self.made is not None:
            self.places[self.made] = "heap"

    def fault(self, word):
        """Note a fault."""
        self.found[word] = True

    def checks(self, place):
        """Note the faults of an instruction that names a place."""
        if place[0] == "y":
            self.has_slots(place[1])

    def has_slots(self, many):
        """Note the fault if there is no frame with so many slots."""
        if self.slots is None:
            self.fault("frame")
        elif many > self.slots:
            self.fault("slot")

    def has_no_frame(self):
        """Note the fault if there is a frame."""
        if self.slots is not None:
            self.fault("frame")

    def reads(self, place, need):
        """What a place that is read holds; need is "any", "term", "safe" or "level"."""
        self.checks(place)
        what = self.places.get(place)
        if what is None:
            self.fault("nothing")
        elif what == "lost":
            self.fault("unsafe")
        elif need == "level":
            if what not in ("level", "given"):
                self.fault("level")
        elif need != "any" and what == "level":
            self.fault("level")
        elif need == "safe" and what != "heap":
            self.fault("local")
        return what

    def reads_arguments(self, key, need):
        """What the registers of the arguments of a key hold."""
        return [self.reads(("x", i), need) for i in range(1, key[1] + 1)]


def is_later(what, many):
    """Tell whether what a place holds may be the cell of a slot behind the first many ones."""
    return isinstance(what, tuple) and what[1] > many


def _take_new(holding, instruction):
    word, place, i = instruction
    holding.checks(place)
    what = holding.reads(("x", i), "any")
    if place[0] == "y" and is_later(what, place[1]):
        holding.fault("unsafe")
    return [(place, what)]


def _take_old(holding, instruction):
    word, place, i = instruction
    holding.reads(place, "term")
    holding.reads(("x", i), "term")
    return []


def _take_const(holding, instruction):
    holding.reads(("x", instruction[2]), "term")
    return []


def _take_struct(holding, instruction):
    holding.reads(("x", instruction[3]), "term")
    return []


def _arg_new(holding, instruction):
    holding.checks(instruction[1])
    return [(instruction[1], "heap")]


def _arg_old(holding, instruction):
    holding.reads(instruction[1], "safe")
    return []


def _arg_local(holding, instruction):
    place = instruction[1]
    what = holding.reads(place, "term")
    return [(place, "old" if what == "given" else what)]


def _nothing(holding, instruction):
    return []


def _give_new(holding, instruction):
    word, place, i = instruction
    holding.checks(place)
    what = "heap" if place[0] == "x" else ("slot", place[1])
    return [(place, what), (("x", i), what)]


def _give_old(holding, instruction):
    word, place, i = instruction
    return [(("x", i), holding.reads(place, "any"))]


def _give_unsafe(holding, instruction):
    word, place, i = instruction
    holding.reads(place, "term")
    return [(("x", i), "old")]


def _give_const(holding, instruction):
    return [(("x", instruction[2]), "heap")]


def _keep_entry(holding, instruction):
    if holding.has_called:
        holding.fault("entry")
    return _keep_now(holding, instruction)


def _keep_now(holding, instruction):
    holding.checks(instruction[1])
    return [(instruction[1], "level")]


def _cut(holding, instruction):
    holding.reads(instruction[1], "level")
    return []


def _builtin(holding, instruction):
    holding.reads_arguments(instruction[1], "term")
    return []


MOVES = {
    "take_new": _take_new, "take_old": _take_old, "take_const": _take_const, "take_struct": _take_struct,
    "arg_new": _arg_new, "arg_old": _arg_old, "arg_local": _arg_local, "arg_const": _nothing, "arg_skip": _nothing,
    "give_new": _give_new, "give_old": _give_old, "give_unsafe": _give_unsafe, "give_const": _give_const,
    "give_struct": _nothing, "keep_entry": _keep_entry, "keep_now": _keep_now, "cut_to": _cut, "soft_cut": _cut,
    "builtin": _builtin,
}


def _frame(holding, instruction):
    holding.has_no_frame()
    if holding.found == {}:
        holding.slots = instruction[1]
    return []


def _unframe(holding, instruction):
    holding.has_slots(0)
    if holding.found == {}:
        held = {}
        for place, what in holding.places.items():
            if place[0] == "x":
                held[place] = "lost" if isinstance(what, tuple) else what
        holding.places = held
        holding.slots = None
    return []


def _call(holding, instruction):
    word, key, many = instruction
    holding.has_slots(many)
    told = holding.reads_arguments(key, "any")
    kept = {place: what for place, what in holding.places.items() if place[0] == "y" and place[1] <= many}
    if any([is_later(what, many) for what in told + list(kept.values())]):
        holding.fault("unsafe")
    if holding.found == {}:
        holding.places = kept
        holding.slots = many
        holding.has_called = True
    return []


def _jump(holding, instruction):
    holding.has_no_frame()
    holding.reads_arguments(instruction[1], "any")
    return []


def _return(holding, instruction):
    holding.has_no_frame()
    return []


FLOWS = {"frame": _frame, "unframe": _unframe, "call": _call, "jump": _jump, "return": _return}
