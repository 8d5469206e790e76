"""The parts of a machine, and what is done with them."""

from hornmill.heap import Store
from hornmill.points import Frame, Point, Spot
from hornmill.program import Coded

FIRST_NAME = -11


class Engine:
    """The registers, the frames, the choice points and the store of a machine.

    word tells what comes next: "begin", "run" (the instruction at a line of a clause), "END",
    "LEAVE", "COLLECT", "fail", or "over". kept is the number of slots of the present frame
    that count. While the arguments of a structure are told, untold of them are left:
    they are written, or read from next_argument on.
    """

    def __init__(self, world, goal, limit):
        self.world = world
        self.goal = goal
        self.limit = limit
        self.store = Store()
        self.held = {}
        self.shown = []
        self.frame = None
        self.kept = 0
        self.back = Spot("END", None, 0, 0)
        self.level = 0
        self.points = []
        self.word = "begin"
        self.clause = None
        self.line = 0
        self.called = 0
        self.made = 0
        self.standing_once = 0
        self.greatest = {"heap": 0, "stack": 0, "trail": 0}
        self.news = {}
        self.free_name = FIRST_NAME
        self.untold = 0
        self.is_writing = False
        self.next_argument = 0
        self.structure = 0
        self.bound = None
        self.is_mixed = False

    def cell_in(self, place):
        """The cell of a register or of a slot of the present frame."""
        if place[0] == "x":
            return self.held[place[1]]
        return self.store.slots[self.frame.base + 1 + place[1]]

    def put_in(self, place, cell):
        """Put a cell into a register or a slot of the present frame."""
        if place[0] == "x":
            self.held[place[1]] = cell
        else:
            self.store.slots[self.frame.base + 1 + place[1]] = cell

    def stack_top(self):
        """The place on the stack at which a new frame begins."""
        least = self.points[-1].top_then if self.points else 0
        return least if self.frame is None else max(least, self.frame.base + 2 + self.kept)

    def push_frame(self, word, cells):
        """Make a frame the present one whose slots hold some cells."""
        frame = Frame(word, self.stack_top(), self.frame, self.back)
        first = frame.base + 2
        for at, cell in enumerate(cells):
            self.store.slots[first + at] = cell
        self.store.stack_size = max(self.store.stack_size, first + len(cells))
        self.frame = frame
        self.kept = len(cells)

    def pop_frame(self):
        """Leave the present frame."""
        self.come_to(self.frame.before, self.frame.back)

    def come_to(self, frame, back):
        """Make a frame the present one, at a time when its continuation is this one."""
        self.frame = frame
        self.back = back
        self.kept = back.kept

    def go_on(self):
        """Go on at the continuation; return True, as what leads there has succeeded."""
        self.held = {}
        self.word = self.back.word
        self.clause = self.back.clause
        self.line = self.back.line
        return True

    def begin_clause(self, clause):
        """Go on at the first instruction of a clause; return True."""
        self.word = "run"
        self.clause = clause
        self.line = 0
        return True

    def choose(self, word, key, ways, frame, back):
        """Make a choice point that holds a frame and a continuation."""
        point = Point(word, key, ways, dict(self.held), frame, back)
        point.level = self.level
        point.trail_length = len(self.store.noted)
        point.heap_length = self.store.size()
        point.top_then = self.stack_top()
        self.points.append(point)
        self.made += 1
        self.standing_once = max(self.standing_once, len(self.points))
        self.mark()

    def cut(self, level):
        """Take the choice points above a level off."""
        del self.points[level:]
        self.mark()

    def mark(self):
        """Set the marks of the store to those of the last choice point."""
        if self.points:
            point = self.points[-1]
            self.store.marks(point.heap_length, point.top_then)
        else:
            self.store.marks(0, 0)

    def restore(self, point):
        """Come back to what a choice point, the last one, holds."""
        self.store.undo(point.trail_length, point.heap_length)
        self.held = dict(point.held)
        self.level = point.level
        self.come_to(point.frame, point.back)

    def add_new(self, flats):
        """Compile the flat clauses of new predicates, the first of which has the name that was free."""
        for flat in flats:
            self.news.setdefault(flat[0], []).append(Coded(flat))
        self.free_name = min([flat[0][0] for flat in flats]) - 1

    def end(self):
        """End the run."""
        self.cut(0)
        self.word = "over"

    def note_counts(self):
        """Count what there is behind a step."""
        greatest = self.greatest
        greatest["heap"] = max(greatest["heap"], self.store.size())
        greatest["stack"] = max(greatest["stack"], self.stack_top())
        greatest["trail"] = max(greatest["trail"], len(self.store.noted))

    def frame_rows(self, frame, kept, look):
        """The frames from one on, of which some slots are kept; look tells the cell at a place."""
        rows = []
        while frame is not None:
            first = frame.base + 2
            rows.append((frame.base, [look(("s", first + at)) for at in range(kept)]))
            kept = frame.back.kept
            frame = frame.before
        return rows
