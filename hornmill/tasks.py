"""What a run of a goal has to do, and what it can do in the place of that."""


class Task:
    """A goal to be done, or a step that ends something; behind is the next task, or None.

    A goal is a term whose variables things tells, with its level. Other steps have another
    word, and what they need in the place of the goal.
    """

    def __init__(self, word, goal, things, level, behind):
        self.word = word
        self.goal = goal
        self.things = things
        self.level = level
        self.behind = behind


class Choice:
    """An alternative: its word, what it needs, the task behind it, and the length of the trail."""

    def __init__(self, word, needs, behind, length):
        self.word = word
        self.needs = needs
        self.behind = behind
        self.length = length


class Thrown(Exception):
    """A ball is thrown."""

    def __init__(self, ball):
        Exception.__init__(self, "a ball is thrown")
        self.ball = ball


class LimitMet(Exception):
    """There would be one call more than the limit."""
