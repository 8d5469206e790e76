"""[1.7], [1.8]: terms that are more general than others."""

import unittest

from hornmill.general import is_variant, join_of, matching, meet_of, subsumes
from hornmill.terms import renumbered
from tests.support import chance, list_of, slow_renumbered, slow_replaced, slow_unify, slow_variables, some_term, tower


class Matching(unittest.TestCase):
    def check(self, general, special, found):
        with self.subTest(f"{general} {special}"[:80]):
            self.assertEqual(matching(general, special), found)
            self.assertIs(subsumes(general, special), found is not None)

    def test_without_variables(self):
        for term in ("a", 3, "", ("f", "a"), list_of(range(290)), tower(300)):
            self.check(term, term, [])
        for general, special in (("a", "b"), (3, 4), (1, "1"), ("a", (0,)), (3, (3,)), (("f", "a"), (0,)), ("f", ("f", "a")),
                                 (("f", "a"), ("f", "b")), (("f", "a"), ("g", "a")), (("f", "a"), ("f", "a", "a")),
                                 (tower(300), tower(299)), (("f", "a"), "f")):
            self.check(general, special, None)

    def test_a_variable(self):
        for term in ("a", -3, (0,), (7,), ("f", (0,)), tower(300, (0,))):
            self.check((0,), term, [(0, term)])
            self.check(("g", (4,), "a"), ("g", term, "a"), [(4, term)])

    def test_all_variables_by_rising_numbers(self):
        self.check(("f", (9,), (2,), (5,), (2,)), ("f", "a", (1,), 3, (1,)), [(2, (1,)), (5, 3), (9, "a")])
        many = 290
        self.check(list_of([(many - k,) for k in range(many)]), list_of(range(many)),
                   [(many - k, k) for k in range(many - 1, -1, -1)])

    def test_variables_that_both_have(self):
        self.check(("f", (0,), (1,)), ("f", (1,), (0,)), [(0, (1,)), (1, (0,))])
        self.check(("f", (0,)), ("f", ("g", (0,))), [(0, ("g", (0,)))])
        self.check(("f", (0,), (1,)), ("f", (1,), "a"), [(0, (1,)), (1, "a")])
        self.check(("f", (0,), (1,), (0,)), ("f", (1,), (0,), (1,)), [(0, (1,)), (1, (0,))])
        self.check(("f", (0,), "a"), ("f", "a", (0,)), None)

    def test_a_variable_that_is_to_be_itself(self):
        self.check((5,), (5,), [(5, (5,))])
        self.check(("f", (0,), (1,)), ("f", (0,), (1,)), [(0, (0,)), (1, (1,))])
        self.check(("f", (0,), (0,)), ("f", (0,), (0,)), [(0, (0,))])

    def test_a_variable_that_would_be_two_things(self):
        for one, other in (("a", "b"), ("a", (0,)), ((0,), "a"), ((0,), (1,)), (1, "1"), (("g", "a"), ("g", "b")),
                           (("g", (0,)), ("g", (1,))), (("g", "a"), "g"), (tower(200), tower(201))):
            self.check(("f", (0,), (0,)), ("f", one, other), None)
            self.check(("f", (0,), ("h", (1,), (0,))), ("f", one, ("h", "c", other)), None)
        self.check(("f", (0,), ("h", (0,))), ("f", tower(200, (3,)), ("h", tower(200, (3,)))), [(0, tower(200, (3,)))])

    def test_the_list_is_new(self):
        found = matching(("f", (0,)), ("f", "a"))
        found.append("x")
        self.assertEqual(matching(("f", (0,)), ("f", "a")), [(0, "a")])

    def test_by_chance(self):
        rng = chance(51)
        seen = [0, 0]
        for _ in range(1500):
            general = some_term(rng, 3, [0, 1, 2, 9])
            special = some_term(rng, 3, [0, 1, 2])
            if rng.randrange(2):
                special = slow_replaced(general, {k: some_term(rng, 2, [0, 1, 2]) for k in (0, 1, 2, 9)})
            found = matching(general, special)
            # The variables of special as atoms: then matching is unifying.
            frozen = slow_replaced(special, {k: f"var {k}" for k in range(10)})
            slow = slow_unify([(general, frozen)])
            seen[found is None] += 1
            self.assertEqual(found is None, slow is None, (general, special))
            self.assertIs(subsumes(general, special), slow is not None)
            if found is not None:
                self.assertEqual([k for k, _ in found], sorted(slow_variables(general)))
                self.assertEqual(slow_replaced(general, dict(found)), special)
        self.assertGreater(min(seen), 100)


class Variants(unittest.TestCase):
    def check(self, one, other, answer):
        with self.subTest(f"{one} {other}"[:80]):
            self.assertIs(is_variant(one, other), answer)
            self.assertIs(is_variant(other, one), answer)

    def test_variants(self):
        for one, other in ((("f", (0,), (1,)), ("f", (1,), (0,))), ((0,), (77,)), ("a", "a"), (3, 3),
                           (("f", (0,), ("g", (5,), (0,))), ("f", (5,), ("g", (0,), (5,)))),
                           (tower(300, (1,)), tower(300, (2,))), (list_of([(k,) for k in range(290)]),
                                                                   list_of([(290 - k,) for k in range(290)]))):
            self.check(one, other, True)

    def test_what_is_none(self):
        for one, other in ((("f", (0,), (0,)), ("f", (0,), (1,))), (("f", (0,), (1,)), ("f", (2,), (2,))), ((0,), "a"),
                           ((0,), 0), (("f", (0,)), ("f", "a")), ("a", "b"), (1, "1"), (("f", (0,)), ("g", (0,))),
                           (("f", (0,)), ("f", (0,), (1,))), (("f", (0,), (1,), (0,)), ("f", (0,), (1,), (1,))),
                           (tower(300), tower(299))):
            self.check(one, other, False)

    def test_by_chance(self):
        rng = chance(52)
        for _ in range(1000):
            one, other = some_term(rng, 3, [0, 1, 2]), some_term(rng, 3, [0, 1, 2])
            self.check(one, other, subsumes(one, other) and subsumes(other, one))
            names = rng.sample(range(9), 3)
            self.check(one, slow_replaced(one, {k: (names[k],) for k in range(3)}), True)


class Meets(unittest.TestCase):
    def check(self, one, other, found):
        with self.subTest(f"{one} {other}"[:80]):
            self.assertEqual(meet_of(one, other), found)
            self.assertEqual(meet_of(other, one), found)

    def test_the_example(self):
        self.check(("f", (0,), "a"), ("f", "b", (0,)), ("f", "b", "a"))

    def test_variables_of_the_same_numbers_on_both_sides(self):
        self.check((0,), (0,), (0,))
        self.check((5,), ("f", (5,)), ("f", (0,)))
        self.check(("f", (0,), (1,)), ("f", (1,), (0,)), ("f", (0,), (1,)))
        self.check(("f", (0,), ("g", (0,))), ("f", "a", (0,)), ("f", "a", ("g", "a")))
        self.check(("f", (0,), (0,)), ("f", (0,), ("g", (1,))), ("f", ("g", (0,)), ("g", (0,))))
        self.check(("f", (1,), (0,), (1,)), ("f", (0,), (0,), (1,)), ("f", (0,), (0,), (0,)))
        self.check(("f", (3,), (2,)), ("f", (2,), (3,)), ("f", (0,), (1,)))

    def test_without_a_meet(self):
        for one, other in (("a", "b"), (1, 2), (1, "1"), (("f", "a"), ("g", "a")), (("f", "a"), ("f", "a", "a")), ("f", ("f", "a")),
                           (("f", (0,), (0,)), ("f", "a", "b")), (("f", (0,), (0,)), ("f", (1,), ("g", (1,)))),
                           (("f", (0,), ("g", (0,))), ("f", (0,), (0,))), (tower(300), tower(299))):
            self.check(one, other, None)

    def test_the_answer_is_renumbered(self):
        self.check(("f", (9,), (7,)), ("f", (8,), ("g", (6,), (8,))), ("f", (0,), ("g", (1,), (0,))))

    def test_great_terms(self):
        self.check(list_of([(k,) for k in range(290)]), list_of(range(290)), list_of(range(290)))
        self.check(tower(300, (4,)), tower(290, (4,)), tower(300, (0,)))

    def test_shared_parts_are_written_out(self):
        one = ("q", list_of([(k + 1,) for k in range(8)]), list_of([("f", (k,), (k,)) for k in range(8)]))
        part, items = (0,), []
        for _ in range(8):
            part = ("f", part, part)
            items.append(part)
        self.check(one, ("q", (0,), (0,)), ("q", list_of(items), list_of(items)))


class Joins(unittest.TestCase):
    def check(self, one, other, found):
        with self.subTest(f"{one} {other}"[:80]):
            self.assertEqual(join_of(one, other), found)
            self.assertEqual(join_of(other, one), found)

    def test_the_example(self):
        self.check(("f", "a", "a", ("g", "a")), ("f", "b", "b", ("g", "c")), ("f", (0,), (0,), ("g", (1,))))

    def test_equal_terms(self):
        for term in ("a", 3, ("f", "a", 1), list_of(range(290)), tower(300)):
            self.check(term, term, term)

    def test_terms_that_differ_at_once(self):
        for one, other in (("a", "b"), (1, 2), (1, "1"), ("a", ("a", "a")), (("f", "a"), ("g", "a")), ((5,), "a"), ((3,), (3,)),
                           (("f", "a"), ("f", "a", "a")), ((4,), ("f", (4,)))):
            self.check(one, other, (0,))

    def test_the_same_two_parts_at_several_places(self):
        self.check(("f", "a", "b", "a"), ("f", "b", "a", "b"), ("f", (0,), (1,), (0,)))
        self.check(("f", "a", ("g", "a"), "a"), ("f", 1, ("g", 1), 2), ("f", (0,), ("g", (0,)), (1,)))
        self.check(("f", ("g", "a"), ("g", "a")), ("f", 1, 1), ("f", (0,), (0,)))
        self.check(("f", ("g", "a"), ("g", "b")), ("f", 1, 1), ("f", (0,), (1,)))

    def test_variables_of_one_and_of_the_other_are_unlike(self):
        self.check(("f", (0,), (0,)), ("f", (0,), (1,)), ("f", (0,), (1,)))
        self.check(("f", (0,), (1,)), ("f", (1,), (0,)), ("f", (0,), (1,)))
        self.check(("f", (0,), "a"), ("f", (0,), (0,)), ("f", (0,), (1,)))
        self.check(("f", (5,), ("g", (5,))), ("f", (9,), ("g", (9,))), ("f", (0,), ("g", (0,))))
        self.check(("f", (0,), (0,)), ("f", "a", "a"), ("f", (0,), (0,)))

    def test_the_answer_is_renumbered(self):
        self.check(("f", ("g", (9,), (7,)), (7,)), ("f", ("g", (4,), (2,)), (2,)), ("f", ("g", (0,), (1,)), (1,)))

    def test_great_terms(self):
        self.check(list_of(range(290)), list_of(range(1, 291)), list_of([(k,) for k in range(290)]))
        self.check(tower(300), tower(300, "b"), tower(300, (0,)))
        self.check(tower(300), tower(299), tower(299, (0,)))


class Facts(unittest.TestCase):
    def check(self, one, other, third):
        meet, join = meet_of(one, other), join_of(one, other)
        self.assertEqual(meet, meet_of(other, one))
        self.assertEqual(join, join_of(other, one))
        self.assertEqual(meet_or_none(meet, third), meet_or_none(one, meet_of(other, third)))
        self.assertEqual(join_of(join, third), join_of(one, join_of(other, third)))
        self.assertEqual(meet_of(one, join), renumbered(one))
        if meet is not None:
            self.assertEqual(join_of(one, meet), renumbered(one))
            self.assertEqual(meet, renumbered(meet))
            self.assertTrue(subsumes(one, meet) and subsumes(other, meet))
        self.assertEqual(join, renumbered(join))
        self.assertTrue(subsumes(join, one) and subsumes(join, other))
        self.assertEqual(subsumes(one, other), meet is not None and meet == renumbered(other))
        self.assertEqual(subsumes(one, other), join == renumbered(one))
        apart = slow_replaced(other, {k: (k + 100,) for k in range(100)})
        self.assertEqual(meet is None, slow_unify([(one, apart)]) is None)
        if meet is not None:
            self.assertEqual(meet, slow_renumbered(slow_replaced(one, slow_unify([(one, apart)]))))

    def test_for_terms_of_all_kinds(self):
        terms = [(0,), (3,), 1, -1, "a", "", ("f", (0,)), ("f", (1,), (0,)), ("f", (0,), (0,)), ("f", "a", (2,)),
                 ("f", ("f", (0,), (1,)), (1,)), (".", "a", (0,)), list_of(["a", "b"])]
        for one in terms:
            for other in terms:
                for third in terms:
                    self.check(one, other, third)

    def test_by_chance(self):
        rng = chance(53)
        for _ in range(600):
            self.check(some_term(rng, 4, [0, 1, 2]), some_term(rng, 4, [0, 1, 5]), some_term(rng, 3, [0, 2]))


def meet_or_none(one, other):
    return None if one is None or other is None else meet_of(one, other)


if __name__ == "__main__":
    unittest.main()
