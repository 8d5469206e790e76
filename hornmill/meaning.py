"""Queries: goals by their plain meaning."""

from hornmill.errors import BadGoal, BadValue
from hornmill.run import Run
from hornmill.terms import is_number, is_term


class Query:
    """A run of a goal in a world, answer by answer."""

    def __init__(self, world, goal, limit):
        if not is_term(goal):
            raise BadGoal(goal)
        if not is_number(limit):
            raise BadValue("limit")
        self.run = Run(world, goal, limit)

    def next(self):
        """Go on to the next answer: ("yes", row), ("no",), ("thrown", ball) or ("limit",)."""
        return self.run.advance()

    def is_open(self):
        """Tell whether a choice stands."""
        return self.run.height() > 0

    def calls(self):
        """The number of calls so far."""
        return self.run.called

    def choices(self):
        """The number of choices made so far."""
        return self.run.made

    def standing(self):
        """The greatest number of choices that stood at one time."""
        return self.run.greatest
