"""How tests run goals, by a query and by a machine: programs and goals are written as texts."""

import copy
import unittest

from hornmill.machine import Machine
from hornmill.operators import standard
from hornmill.reader import read_term, read_terms
from hornmill.world import World
from hornmill.writer import written


def program(text):
    """A world with a program, its clauses as [2.6] reads them."""
    return World([term for term, _ in read_terms(text, standard())])


def goal(text):
    return read_term(text, standard())[0]


def text_of(term):
    return written(term, standard())


def shown(result):
    """A result of next as a short text: the row's terms, or the word and the ball."""
    if result[0] == "yes":
        return text_of(("row", *result[1]))[4:-1] if 0 < len(result[1]) < 9 else "yes" if not result[1] else str(result[1])
    return result[0] if len(result) == 1 else f"{result[0]} {text_of(result[1])}"


def counted(run):
    """What both kinds of runs count: calls, choices made, the most that stood, and whether one stands."""
    if isinstance(run, Machine):
        counts = run.counts()
        return run.calls(), counts["choices"], counts["standing"], run.is_open()
    return run.calls(), run.choices(), run.standing(), run.is_open()


class Running(unittest.TestCase):
    def answers(self, world, text, most=30, limit=2000):
        """The results of next up to the end, or up to so many; a query and a machine must agree."""
        other = copy.deepcopy(world)
        query, machine = world.query(goal(text), limit=limit), Machine(other, goal(text), limit=limit)
        found = []
        while len(found) < most:
            result = query.next()
            self.assertEqual((machine.next(), counted(machine)), (result, counted(query)))
            if result == ("no",):
                break
            found.append(shown(result))
        self.assertEqual(other.output(), world.output())
        self.assertEqual([(key, other.clauses(key)) for key in other.known()], [(key, world.clauses(key)) for key in world.known()])
        return found

    def check(self, world, text, *expected, **more):
        with self.subTest(text):
            self.assertEqual(self.answers(program(world) if isinstance(world, str) else world, text, **more), list(expected))
