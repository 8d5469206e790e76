"""[10.2]: flat clauses, and what all functions that take one raise for anything else."""

import unittest

from hornmill.chunks import chunks, has_frame, slots, trims
from hornmill.compiling import compiled, size, unsafe
from hornmill.errors import NoFlat
from hornmill.flat import flattened
from tests.flat_clauses import flats_of_clauses, some_flat
from tests.support import PERCENT, chance, odd_terms, odd_values

CALLS = (chunks, slots, trims, has_frame, compiled, unsafe, size)
P = ("p", 0)
A, B, C = [(k,) for k in range(3)]
NO_KEYS = ["p", 0, None, (), ("p",), ["p", 1], ("p", 9), ("p", -1), (0, -1), ("p", True), (True, 1), (0, True), ("p", "1"), ("p", None), ("p", [1]), (["p"], 1),
           ({}, 1), (None, 1), (1.0, 1), ("a" * 41, 1), (PERCENT, 1), ("p", 1, 1), ("p", 1.0), (("p",), 1)]


def goal(*terms):
    return ("call", ("p", len(terms)), terms)


def short(thing):
    try:
        return str(thing)[:100]
    except ValueError:
        return "with a great integer"


def flat(*goals, key=P, args=()):
    return (key, args, goals)


def news(name, *args):
    return ("call", (name, len(args)), args)


class Checks(unittest.TestCase):
    def wrong(self, why, *things):
        for thing in things:
            for call in CALLS:
                with self.subTest(short(thing), call=call.__name__):
                    with self.assertRaises(NoFlat) as caught:
                        call(thing)
                    self.assertEqual(caught.exception.why, why)

    def right(self, *things):
        for thing in things:
            for call in CALLS:
                with self.subTest(short(thing), call=call.__name__):
                    call(thing)


class Forms(Checks):
    def test_right_ones(self):
        self.right(flat(), flat(args=("a",), key=("p", 1)), flat(goal(), goal(A)), flat(key=(5, 9), args=("a",) * 9), flat(key=(-12, 0)), flat(key=(10 ** 400, 0)),
                   flat(("do", ("=", 2), (A, B))), flat(("do", ("call", 8), (A,) * 8)), flat(("do", ("fail", 0), ())), flat(("do", (-2, 4), (A,) * 4)),
                   flat(("call", ("bagof", 3), (A, B, C))), flat(("call", (0, 300), (A,) * 300)), flat(("call", ("=", 3), (A, A, A))), flat(("do", ("true", 0), ())),
                   flat(key=("=", 2), args=(A, A)), flat(key=("call", 1), args=("a",)))

    def test_no_flat_clauses_at_all(self):
        self.wrong("form", *odd_values(), "", "p", 0, (), [], (P,), (P, ()), (P, (), (), ()), [P, (), ()], (P, [], ()), (P, (), []), (P, (), "a"), (P, "", ()), (P, None, ()),
                   (P, (), None), {P: ()}, ((), P, ()))

    def test_keys_and_arguments(self):
        for wrong in NO_KEYS:
            self.wrong("form", (wrong, (), ()), (wrong, ("a",), ()), flat(("call", wrong, ())), flat(("call", wrong, ("a",))), flat(("do", wrong, ("a",))))
        self.wrong("form", flat(args=("a",)), flat(key=("p", 1)), flat(key=("p", 2), args=("a",)), flat(key=("p", 9), args=("a",) * 9))
        self.wrong("form", flat(("call", ("p", 1), ())), flat(("call", ("p", 1), ("a", "b"))), flat(("call", ("p", 1), ["a"])), flat(("call", ("p", 1), "a")))
        self.wrong("form", flat(("do", ("=", 2), (A,))), flat(("do", ("=", 2), [A, B])))
        for wrong in odd_terms():
            self.wrong("form", flat(key=("p", 1), args=(wrong,)), flat(key=("p", 2), args=("a", wrong)), flat(goal(wrong)), flat(goal("a", wrong)),
                       flat(("do", ("=", 2), ("a", wrong))), flat(("entry", wrong)))

    def test_goals_and_what_is_near_to_them(self):
        self.wrong("form", flat("call"), flat(()), flat(("call",)), flat(("call", P)), flat(("call", P, (), ())), flat(["call", P, ()]), flat(("Call", P, ())), flat((None, P, ())),
                   flat((["call"], P, ())), flat(({}, P, ())), flat(("jump", P, ())), flat((P, ())), flat(None), flat({}), flat([]), flat(("", P, ())))
        # Keys of builtins and of constructs are not called, others are not done.
        self.wrong("form", flat(("call", ("=", 2), (A, B))), flat(("call", ("call", 1), (A,))), flat(("call", ("fail", 0), ())), flat(("call", (",", 2), (A, B))),
                   flat(("call", (-1, 6), (A,) * 6)), flat(("call", (-2, 4), (A,) * 4)), flat(("do", P, ())), flat(("do", ("bagof", 3), (A, B, C))), flat(("do", (0, 0), ())),
                   flat(("do", (-1, 5), (A,) * 5)), flat(("do", ("=", 3), (A, B, C))))
        for word in ("entry", "now", "cut", "soft"):
            self.wrong("form", flat((word,)), flat((word, A, A)), flat((word, 0)), flat((word, "a")), flat((word, ("f", A))), flat((word, (True,))), flat((word, (-1,))),
                       flat((word, ())), flat([word, A]), flat((word, [0])), flat((word, None)))
        self.wrong("form", flat(goal(), goal(), ("call", P, None)), flat(goal(True)))

    def test_new_predicates_with_keys_of_the_library(self):
        clause = (":-", ("p", *[(k,) for k in range(6)]), (";", ("q", *[(k,) for k in range(6)]), "r"))
        self.wrong("form", flattened(clause, -1)[0])
        self.right(*flattened(clause, 0))


class Entries(Checks):
    def test_entries_stand_ahead_of_calls(self):
        self.right(flat(("entry", A)), flat(("do", ("nl", 0), ()), ("entry", A), goal()), flat(("entry", A), goal(), ("cut", A)), flat(("entry", A), ("entry", B)),
                   flat(("now", A), ("do", ("=", 2), (B, C)), ("entry", (9,)), ("cut", (9,))))
        self.wrong("entry", flat(goal(), ("entry", A)), flat(news(0), ("entry", A)), flat(("do", ("call", 1), (B,)), ("entry", A)), flat(("do", ("throw", 1), (B,)), ("entry", A)),
                   flat(("do", ("between", 3), (1, 2, B)), ("entry", A)), flat(("do", (-2, 4), ("a",) * 4), ("entry", A)), flat(("do", ("true", 0), ()), ("entry", A)),
                   flat(("entry", A), goal(), ("now", B), ("entry", C)))

    def test_nows_stand_anywhere(self):
        self.right(flat(goal(), ("now", A), goal(), ("cut", A)), flat(goal(), ("now", A)))


class Levels(Checks):
    def test_right_ones(self):
        self.right(flat(("entry", A), ("cut", A), ("cut", A), ("soft", A)), flat(("now", A), news(0, B, A), ("soft", A)), flat(("now", A), news(0, A, A)),
                   flat(key=(3, 1), args=(A,)), flat(("cut", A), key=(3, 1), args=(A,)), flat(("soft", A), ("cut", B), key=(3, 2), args=(B, A)),
                   flat(news(4, B, A), ("cut", A), key=(3, 2), args=(("f", B), A)), flat(news(4, A), goal(A), key=(3, 1), args=(A,)), flat(goal(A), key=(3, 1), args=(A,)))

    def test_a_level_is_made_where_it_first_stands(self):
        for word in ("entry", "now"):
            self.wrong("level", flat((word, A), key=("p", 1), args=(A,)), flat((word, A), key=(0, 1), args=(A,)), flat((word, A), key=("p", 1), args=(("f", A),)),
                       flat(("do", ("var", 1), (A,)), (word, A)), flat(("do", ("var", 1), (("f", A),)), (word, A)), flat((word, A), (word, A)), flat(("now", A), (word, A)))
        self.wrong("level", flat(news(0, A), ("now", A)), flat(goal(A), ("now", A)))

    def test_a_level_is_made_ahead_of_its_use(self):
        for word in ("cut", "soft"):
            self.wrong("level", flat((word, A)), flat(("entry", A), (word, B)), flat((word, A), ("now", A)), flat(news(0, A), (word, A)), flat(goal(), (word, A)),
                       flat((word, A), key=("p", 1), args=(A,)), flat((word, A), key=(0, 2), args=(A, A)), flat((word, A), key=(0, 1), args=(("f", A),)),
                       flat((word, A), key=(0, 2), args=(A, ("f", A))), flat((word, A), key=(0, 1), args=(B,)), flat((word, A), key=("a", 1), args=(A,)))

    def test_where_levels_stand(self):
        for goals in ((goal(A),), (news(0, ("f", A)),), (goal(("f", A)),), (("do", ("var", 1), (A,)),), (("do", ("call", 2), ("a", A)),), (news(0, A), goal(A)),
                      (news(0, A, ("f", A)),), (("call", ("bagof", 3), (A, "a", "b")),)):
            for made in (("entry", A), ("now", A)):
                self.wrong("level", flat(made, *goals), flat(made, ("cut", A), *goals), flat(made, *goals, ("cut", A)))
            self.wrong("level", flat(("cut", A), *goals, key=(0, 1), args=(A,)), flat(*goals, ("soft", A), key=(0, 1), args=(A,)))
        self.right(flat(("now", A), news(0, A), news(1, B, A, A)))

    def test_the_first_word_is_told(self):
        self.wrong("form", flat(goal(), ("entry", A), ("cut", B), goal(True)), flat(("cut", B), ("now", 0)), flat(goal(), ("entry", A), ["cut", A]))
        self.wrong("entry", flat(("cut", B), goal(), ("entry", A)), flat(goal(A), ("entry", A)), flat(("soft", C), goal(), ("entry", A), goal(A)))


class ByChance(Checks):
    def test_flattened_clauses_are_flat_clauses(self):
        rng = chance(3)
        for _ in range(300):
            for one in flats_of_clauses(rng) + [some_flat(rng)]:
                size(one)


if __name__ == "__main__":
    unittest.main()
