"""What builtins are asked, and the rows that they tell."""

from hornmill.terms import numbers_in

FAILED = ("none",)


class Asked:
    """A call of a builtin: its world, its arguments, and which of its rows is asked for.

    first is the number of the first new variable.
    """

    def __init__(self, world, args, k):
        self.world = world
        self.terms = tuple(args)
        self.k = k
        self.first = len(numbers_in(("", "", *args)))


def row_of(pairs, more=None):
    """A row with these pairs; more is what is handed in for the next one, None without one."""
    return ("row", pairs, more)


def passed(test):
    """The one row without pairs if a test holds, otherwise none."""
    return row_of([]) if test else FAILED


def next_of(k, many):
    """What is handed in for the row behind row k of many ones."""
    return k + 1 if k + 1 < many else None
