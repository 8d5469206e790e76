"""[9.1] to [9.9]: addresses, cells, and the store."""

import time
import unittest

from hornmill.cells import is_address, is_cell
from hornmill.errors import BadAddress, BadCell, BadTerm, BadValue
from hornmill.general import is_variant
from hornmill.heap import Store
from hornmill.unify import resolved_term, unify
from tests.support import Unlike, chance, list_of, odd_terms, odd_values, slow_renumbered, slow_replaced, slow_variables, some_term, tower

GREAT = 10 ** 300 - 1
NONE = ("none",)


def heap(k):
    return ("ref", ("h", k))


def stack(k):
    return ("ref", ("s", k))


def no_addresses():
    return odd_values() + ["", "h", 0, (), ("h",), ("h", 0, 0), ["h", 0], ("h", -1), ("h", True), ("s", False), ("h", "0"), ("h", None), ("h", 1.0),
                           ("x", 0), ("H", 0), ("hs", 0), ("", 0), (None, 0), (["h"], 0), ({}, 0), (0, "h"), (("h", 0),), ("h", [0]), (b"h", 0),
                           ("h", Unlike()), (True, 0), ("h", ("h", 0)), heap(0)]


def no_cells():
    return odd_values() + [
        "", "none", 0, (), [], ["none"], ("none", 1), ("None",), (None,), ([],), ({},), ("ref",), ("ref", 0), ("ref", ["h", 0]), ("ref", ("h", -1)),
        ("ref", ("h", True)), ("ref", ("x", 0)), ("ref", "h"), ["ref", ("h", 0)], ("ref", ("h", 0), 0), ("ref", "h", 0), ("con", 5), ("con",),
        ("con", "a" * 41), ("con", chr(37)), ("con", "\n"), ("con", ("f", "a")), ("con", True), ("con", "a", 0), ("con", ["a"]), ["con", "a"],
        ("int", "5"), ("int", True), ("int", False), ("int", 1.0), ("int", GREAT + 1), ("int", -GREAT - 1), ("int", None), ("int",), ("int", 1, 2),
        ("int", (5,)), ("str", ("s", 0)), ("str", ("h", -1)), ("str", 0), ("str",), ("str", ["h", 0]), ("str", ("h", 0), 1), ("fun", "f"),
        ("fun", "f", 0), ("fun", "f", 9), ("fun", "f", -1), ("fun", "f", True), ("fun", "f", "1"), ("fun", 5, 1), ("fun", "a" * 41, 1),
        ("fun", "f", 1, 2), ["fun", "f", 1], ("fun", ("f",), 1), ("level", -1), ("level", True), ("level",), ("level", "0"), ("level", None),
        ("level", 0, 0), ("fun", "f", None), ("fun", "f", [1]), ("reff", ("h", 0)), ("var", 0), (True, 0), (0, 0), (b"con", "a"), ("h", 0),
        ("none", None, None), ("con", "a", 1), ("ref", "a", 1), ("Fun", "a", 2), ("", "a", 1), ("str", "a", 8)]


class Cells(unittest.TestCase):
    def test_addresses(self):
        for address in (("h", 0), ("s", 0), ("h", 7), ("s", 10 ** 30)):
            self.assertIs(is_address(address), True)
        for wrong in no_addresses():
            with self.subTest(kind=str(type(wrong))):
                self.assertIs(is_address(wrong), False)

    def test_cells(self):
        for cell in (heap(0), stack(3), ("con", ""), ("con", "a" * 40), ("con", "[]"), ("int", 0), ("int", GREAT), ("int", -GREAT),
                     ("str", ("h", 0)), ("str", ("h", 99)), ("fun", "f", 1), ("fun", "", 8), ("level", 0), ("level", 10 ** 400), NONE):
            self.assertIs(is_cell(cell), True)
        for wrong in no_cells():
            with self.subTest(kind=str(type(wrong))):
                self.assertIs(is_cell(wrong), False)


class Places(unittest.TestCase):
    def test_an_empty_store(self):
        store = Store()
        self.assertEqual((store.heap(), store.size(), store.trail()), ([], 0, []))

    def test_new_and_put(self):
        store = Store()
        self.assertEqual([store.new(), store.put(("con", "a")), store.put(heap(1)), store.put(NONE), store.new()],
                         [("h", 0), ("h", 1), ("h", 2), ("h", 3), ("h", 4)])
        self.assertEqual(store.heap(), [heap(0), ("con", "a"), heap(1), NONE, heap(4)])
        self.assertEqual(store.size(), 5)
        self.assertEqual([store.at(("h", k)) for k in range(5)], store.heap())
        self.assertEqual(store.trail(), [])

    def test_fill_and_free(self):
        store = Store()
        self.assertIsNone(store.fill(0, ("int", 5)))
        self.assertIsNone(store.free(1))
        self.assertEqual([store.at(("s", 0)), store.at(("s", 1))], [("int", 5), stack(1)])
        store.free(0)
        store.fill(1, NONE)
        self.assertEqual([store.at(("s", 0)), store.at(("s", 1))], [stack(0), NONE])
        store.fill(4, ("level", 2))
        # Places that were made along with a later one have not been filled.
        self.assertEqual([store.at(("s", k)) for k in (2, 3, 4)], [NONE, NONE, ("level", 2)])
        self.assertEqual((store.heap(), store.size(), store.trail()), ([], 0, []))

    def test_fill_and_free_are_not_noted(self):
        store = Store()
        store.marks(10, 10)
        store.free(0)
        store.fill(0, ("con", "a"))
        store.new()
        self.assertEqual(store.trail(), [])

    def test_ends(self):
        store = Store()
        for cell in (heap(1), heap(2), heap(2), ("con", "a"), heap(3), ("str", ("h", 6)), ("fun", "f", 1), heap(5)):
            store.put(cell)
        store.fill(0, heap(0))
        store.free(1)
        store.fill(2, stack(1))
        store.fill(3, stack(2))
        table = {heap(0): heap(2), heap(1): heap(2), heap(2): heap(2), heap(3): ("con", "a"), heap(4): ("con", "a"), heap(5): ("str", ("h", 6)),
                 heap(7): ("str", ("h", 6)), stack(0): heap(2), stack(1): stack(1), stack(2): stack(1), stack(3): stack(1), ("int", 1): ("int", 1),
                 ("str", ("h", 6)): ("str", ("h", 6)), NONE: NONE, ("level", 3): ("level", 3)}
        for cell, end in table.items():
            self.assertEqual(store.end(cell), end)

    def test_lists_are_new(self):
        store = Store()
        store.new()
        store.marks(1, 0)
        store.bind(("h", 0), ("con", "a"))
        store.heap().clear()
        store.trail().append("spoilt")
        self.assertEqual((store.heap(), store.trail()), ([("con", "a")], [("h", 0)]))


class Binding(unittest.TestCase):
    def test_bind_and_the_trail(self):
        store = Store()
        for _ in range(4):
            store.new()
        for k in range(4):
            store.free(k)
        store.marks(2, 3)
        for address in (("s", 3), ("h", 1), ("s", 2), ("h", 2), ("h", 0), ("s", 0)):
            self.assertIsNone(store.bind(address, ("int", address[1])))
        self.assertEqual(store.trail(), [("h", 1), ("s", 2), ("h", 0), ("s", 0)])
        self.assertEqual(store.heap(), [("int", 0), ("int", 1), ("int", 2), heap(3)])
        self.assertEqual([store.at(("s", k)) for k in range(4)], [("int", 0), stack(1), ("int", 2), ("int", 3)])

    def test_undo(self):
        store = Store()
        for _ in range(3):
            store.new()
        store.free(0)
        store.marks(3, 1)
        store.bind(("h", 1), ("con", "a"))
        store.bind(("s", 0), heap(0))
        store.bind(("h", 2), heap(1))
        store.put(("con", "x"))
        self.assertIsNone(store.undo(2, 4))
        self.assertEqual((store.heap(), store.trail()), ([heap(0), ("con", "a"), heap(2), ("con", "x")], [("h", 1), ("s", 0)]))
        self.assertEqual(store.at(("s", 0)), heap(0))
        store.undo(0, 3)
        self.assertEqual((store.heap(), store.trail(), store.at(("s", 0))), ([heap(0), heap(1), heap(2)], [], stack(0)))
        store.undo(0, 1)
        self.assertEqual(store.heap(), [heap(0)])
        store.undo(0, 0)
        self.assertEqual((store.size(), store.new()), (0, ("h", 0)))

    def test_marks_may_be_set_anew(self):
        store = Store()
        store.new()
        store.new()
        store.marks(2, 0)
        store.marks(0, 0)
        store.bind(("h", 0), ("con", "a"))
        store.marks(10 ** 20, 10 ** 20)
        store.bind(("h", 1), ("con", "a"))
        self.assertEqual(store.trail(), [("h", 1)])


class Building(unittest.TestCase):
    def test_example(self):
        store = Store()
        cell = store.build(("f", (0,), ("g", (0,))), {})
        self.assertEqual(
            [cell, store.heap(), store.read([cell])],
            [("str", ("h", 0)), [("fun", "f", 2), heap(1), ("str", ("h", 3)), ("fun", "g", 1), heap(1)],
             ([("f", (0,), ("g", (0,)))], [("h", 1)])])

    def test_leaves(self):
        store = Store()
        names = {}
        self.assertEqual([store.build("a", names), store.build(-5, names), store.size(), names], [("con", "a"), ("int", -5), 0, {}])
        self.assertEqual([store.build((7,), names), store.heap(), names], [heap(0), [heap(0)], {7: heap(0)}])
        self.assertEqual([store.build((7,), names), store.size()], [heap(0), 1])
        self.assertEqual([store.build((0,), {0: ("con", "x")}), store.build((3,), {3: stack(2)}), store.size()], [("con", "x"), stack(2), 1])

    def test_names(self):
        store = Store()
        one = store.new()
        names = {4: ("ref", one), 5: ("con", "c"), 6: ("str", ("h", 9))}
        self.assertEqual(store.build(("f", (4,), (9,), (5,), (9,), (6,)), names), ("str", ("h", 1)))
        self.assertEqual(store.heap()[1:], [("fun", "f", 5), heap(0), heap(3), ("con", "c"), heap(3), ("str", ("h", 9))])
        self.assertEqual(names, {4: heap(0), 5: ("con", "c"), 6: ("str", ("h", 9)), 9: heap(3)})

    def test_compounds_are_written_as_they_are_come_to(self):
        store = Store()
        store.put(("con", "first"))
        cell = store.build(("f", ("a", ("b", 1), (0,)), "x", ("c", ("d", (1,)), ("e", (0,)))), {})
        self.assertEqual(cell, ("str", ("h", 1)))
        self.assertEqual(store.heap()[1:], [
            ("fun", "f", 3), ("str", ("h", 5)), ("con", "x"), ("str", ("h", 8)),
            ("fun", "a", 2), ("str", ("h", 11)), heap(7),
            ("fun", "c", 2), ("str", ("h", 13)), ("str", ("h", 15)),
            ("fun", "b", 1), ("int", 1), ("fun", "d", 1), heap(14), ("fun", "e", 1), heap(7)])

    def test_read(self):
        store = Store()
        names = {}
        one, other = store.build(("f", (3,), ("g", (5,), "a")), names), store.build(("h", (5,), (8,), 7), names)
        self.assertEqual(store.read([one, other, heap(2), ("con", "x")])[0], [
            ("f", (0,), ("g", (1,), "a")), ("h", (1,), (2,), 7), ("g", (1,), "a"), "x"])
        self.assertEqual(store.read((other, one))[0], [("h", (0,), (1,), 7), ("f", (2,), ("g", (0,), "a"))])
        self.assertEqual(store.read([other, one])[1], [names[5][1], names[8][1], names[3][1]])
        self.assertEqual(store.read([]), ([], []))
        self.assertEqual(store.read(()), ([], []))
        store.free(4)
        self.assertEqual(store.read([stack(4), names[5], stack(4)]), ([(0,), (1,), (0,)], [("s", 4), names[5][1]]))

    def test_build_and_read_by_chance(self):
        rng = chance(4)
        for _ in range(500):
            store = Store()
            terms = [some_term(rng, 4, (0, 3, 9)) for _ in range(3)]
            names = {}
            cells = [store.build(term, names) for term in terms]
            self.assertEqual(("", "", *store.read(cells)[0]), slow_renumbered(("", "", *terms)))
            numbers = slow_variables(("", "", *terms))
            self.assertEqual(store.read(cells)[1], [names[k][1] for k in numbers])
            self.assertEqual(sorted(names), sorted(numbers))
            self.assertTrue(all(is_cell(cell) for cell in store.heap()))

    def test_deep_terms(self):
        for term in (tower(300), list_of(range(290))):
            store = Store()
            self.assertEqual(store.read([store.build(term, {})]), ([term], []))


class Joining(unittest.TestCase):
    def test_example(self):
        store = Store()
        one = store.new()
        store.free(0)
        store.marks(1, 0)
        first = store.join(stack(0), ("ref", one))
        second = store.join(stack(0), ("con", "a"))
        self.assertEqual([first, second, store.at(("s", 0)), store.heap(), store.trail()], [True, True, heap(0), [("con", "a")], [("h", 0)]])

    def test_the_younger_is_bound_to_the_older(self):
        for swapped in (False, True):
            for one, other, bound, cell in ((heap(0), heap(1), ("h", 1), heap(0)), (heap(1), stack(0), ("s", 0), heap(1)),
                                            (stack(0), stack(1), ("s", 1), stack(0))):
                store = Store()
                store.new()
                store.new()
                store.free(0)
                store.free(1)
                store.marks(2, 2)
                pair = (other, one) if swapped else (one, other)
                self.assertIs(store.join(*pair), True)
                self.assertEqual((store.at(bound), store.trail()), (cell, [bound]))
                self.assertIs(store.join(*pair), True)
                self.assertEqual(store.trail(), [bound])

    def test_an_unbound_variable_and_another_end(self):
        for swapped in (False, True):
            store = Store()
            term = store.build(("f", "a"), {})
            variable = ("ref", store.new())
            far = ("ref", store.put(term))
            for cell, end in ((term, term), (far, term), (("con", "a"), ("con", "a")), (("int", 5), ("int", 5))):
                store.marks(store.size(), 0)
                self.assertIs(store.join(*((cell, variable) if swapped else (variable, cell))), True)
                self.assertEqual(store.at(variable[1]), end)
                store.undo(0, store.size())

    def test_constants_and_structures(self):
        store = Store()
        cells = {term: store.build(term, {}) for term in ("a", "b", 1, "1", ("f", "a"), ("f", "b"), ("g", "a"), ("f", "a", "a"))}
        again = {term: store.build(term, {}) for term in cells}
        for one in cells:
            for other in cells:
                self.assertIs(store.join(cells[one], again[other]), one == other)
        self.assertEqual(store.trail(), [])

    def test_no_term_has_itself_within(self):
        store = Store()
        names = {}
        cell = store.build(("f", ("g", (0,))), names)
        before = store.heap()
        self.assertIs(store.join(names[0], cell), False)
        self.assertIs(store.join(cell, names[0]), False)
        self.assertEqual(store.heap(), before)
        self.assertIs(store.join(names[0], names[0]), True)

    def test_the_order_of_pairs(self):
        store = Store()
        names = {}
        one = store.build(("f", ("g", (0,), (1,)), (2,), "x"), names)
        other = store.build(("f", ("g", "a", "b"), "c", "y"), names)
        store.marks(store.size(), 0)
        # Bindings that were made ahead of what fails stay.
        self.assertIs(store.join(one, other), False)
        self.assertEqual(store.trail(), [names[0][1], names[1][1], names[2][1]])
        self.assertEqual(store.read([names[0], names[1], names[2]])[0], ["a", "b", "c"])

    def test_contains(self):
        store = Store()
        names = {}
        cell = store.build(("f", ("g", (0,)), (1,), "a"), names)
        third = store.new()
        self.assertIs(store.contains(names[0][1], cell), True)
        self.assertIs(store.contains(names[1][1], cell), True)
        self.assertIs(store.contains(third, cell), False)
        self.assertIs(store.contains(third, ("ref", third)), True)
        self.assertIs(store.contains(third, names[0]), False)
        self.assertIs(store.contains(third, ("con", "a")), False)
        store.bind(names[1][1], ("ref", third))
        self.assertIs(store.contains(third, cell), True)
        store.free(0)
        self.assertIs(store.contains(("s", 0), cell), False)
        self.assertIs(store.contains(("s", 0), stack(0)), True)

    def towers(self, store, many):
        """A tower of shared structures, and the variable at its foot."""
        foot = store.new()
        cell = ("ref", foot)
        for _ in range(many):
            cell = store.build(("f", (0,), (0,)), {0: cell})
        return cell, foot

    def test_towers_of_shared_structures(self):
        begin = time.perf_counter()
        for many in (40, 60, 150):
            store = Store()
            one, foot = self.towers(store, many)
            other, another = self.towers(store, many)
            apart = store.new()
            self.assertIs(store.contains(foot, one), True)
            self.assertIs(store.contains(another, one), False)
            self.assertIs(store.contains(apart, one), False)
            self.assertIs(store.join(("ref", apart), one), True)
            self.assertIs(store.join(one, other), True)
            self.assertEqual(store.end(("ref", another)), ("ref", foot))
            self.assertIs(store.join(one, other), True)
            third, last = self.towers(store, many + 1)
            self.assertIs(store.join(one, third), True)
            self.assertEqual(store.read([("ref", foot)])[0], [("f", (0,), (0,))])
            fourth, _ = self.towers(store, many)
            self.assertIs(store.join(fourth, store.build(("f", (0,), "a"), {0: fourth})), False)
        self.assertLess(time.perf_counter() - begin, 5)

    def test_against_unify(self):
        rng = chance(17)
        outcomes = set()
        for _ in range(2000):
            store = Store()
            names = {}
            for k in (0, 1):
                if rng.randrange(3) == 0:
                    store.free(k)
                    names[k] = stack(k)
            one, other = some_term(rng, 3, (0, 1, 2, 3)), some_term(rng, 3, (0, 1, 2, 3))
            third = some_term(rng, 2, (0, 1, 2, 3, 4))
            cells = [store.build(term, names) for term in (one, other, third)]
            bindings = unify([(one, other)])
            told = store.join(*cells[:2])
            outcomes.add(told)
            self.assertIs(told, bindings is not None)
            if told:
                whole = ("", one, other, third)
                self.assertTrue(is_variant(("", *store.read(cells)[0]), resolved_term(whole, bindings)))

    def test_references_lead_to_older_places(self):
        rng = chance(23)
        for _ in range(300):
            store = Store()
            names = {}
            for k in range(3):
                store.free(k)
            roots = [heap(0)] + [stack(k) for k in range(3)]
            store.new()
            for _ in range(6):
                term = some_term(rng, 3, (0, 1, 2))
                roots.append(store.build(term, names))
                store.join(rng.choice(roots), rng.choice(roots))
            for k, cell in enumerate(store.heap()):
                self.assertTrue(cell[0] != "ref" or cell[1][0] == "h")
            for k in range(3):
                cell = store.at(("s", k))
                self.assertTrue(cell[0] != "ref" or cell[1][0] == "h" or cell[1][1] <= k)

    def test_undo_gives_back_what_was(self):
        rng = chance(29)
        for _ in range(300):
            store = Store()
            names = {}
            roots = []
            for k in range(3):
                store.free(k)
                roots.append(stack(k))
            for _ in range(4):
                roots.append(store.build(some_term(rng, 3, (0, 1, 2)), names))
                store.join(rng.choice(roots), rng.choice(roots))
            cells, places, trail = store.heap(), [store.at(("s", k)) for k in range(3)], store.trail()
            store.marks(store.size(), 3)
            for _ in range(6):
                roots.append(store.build(some_term(rng, 3, (0, 1, 2)), names))
                store.join(rng.choice(roots), rng.choice(roots))
            store.undo(len(trail), len(cells))
            self.assertEqual((store.heap(), [store.at(("s", k)) for k in range(3)], store.trail()), (cells, places, trail))


class Wrong(unittest.TestCase):
    def setUp(self):
        self.store = Store()
        self.store.new()
        self.store.put(("con", "a"))
        self.store.free(0)
        self.store.fill(2, ("int", 1))
        self.store.marks(2, 3)
        self.store.bind(("s", 0), heap(0))
        self.before = self.state()

    def state(self):
        return (self.store.heap(), self.store.trail(), [self.store.at(("s", k)) for k in range(3)])

    def check(self, error, value, call, *args):
        with self.subTest(call=call.__name__, kind=str(type(value))):
            with self.assertRaises(error) as caught:
                call(*args)
            self.assertIs(type(caught.exception), error)
            field = {BadAddress: "address", BadCell: "cell", BadTerm: "term", BadValue: "why"}[error]
            self.assertIs(getattr(caught.exception, field), value)
            self.assertEqual(self.state(), self.before)

    def test_addresses(self):
        store = self.store
        for wrong in no_addresses() + [("h", 2), ("s", 3), ("h", 10 ** 20), ("s", 10 ** 20)]:
            self.check(BadAddress, wrong, store.at, wrong)
            self.check(BadAddress, wrong, store.bind, wrong, ("con", "a"))
            self.check(BadAddress, wrong, store.bind, wrong, None)
            self.check(BadAddress, wrong, store.contains, wrong, ("con", "a"))
            self.check(BadAddress, wrong, store.contains, wrong, None)

    def test_bind_of_what_is_bound(self):
        for wrong in (("h", 1), ("s", 0), ("s", 1), ("s", 2)):
            self.check(BadAddress, wrong, self.store.bind, wrong, ("con", "a"))
            self.check(BadAddress, wrong, self.store.bind, wrong, None)

    def test_cells(self):
        store = self.store
        for wrong in no_cells():
            self.check(BadCell, wrong, store.end, wrong)
            self.check(BadCell, wrong, store.put, wrong)
            self.check(BadCell, wrong, store.fill, 0, wrong)
            self.check(BadCell, wrong, store.bind, ("h", 0), wrong)
            self.check(BadCell, wrong, store.contains, ("h", 0), wrong)
            self.check(BadCell, wrong, store.join, wrong, ("con", "a"))
            self.check(BadCell, wrong, store.join, heap(0), wrong)
            self.check(BadCell, wrong, store.join, wrong, ["other"])
            self.check(BadCell, wrong, store.read, [heap(0), wrong, ["later"]])
            self.check(BadCell, wrong, store.read, (wrong,))

    def test_read_of_what_is_no_list(self):
        for wrong in odd_values() + ["", "a", 5, {}]:
            if not isinstance(wrong, (list, tuple)):
                self.check(BadCell, wrong, self.store.read, wrong)

    def test_terms(self):
        for wrong in odd_terms():
            self.check(BadTerm, wrong, self.store.build, wrong, {})
            self.check(BadTerm, wrong, self.store.build, wrong, None)

    def test_values(self):
        store = self.store
        for wrong in odd_values() + ["", [], (), "names"]:
            if not isinstance(wrong, dict):
                self.check(BadValue, self.why("names"), store.build, ("f", (0,)), wrong)
        no_numbers = [wrong for wrong in odd_values() if wrong != 5] + ["0", -1, [0], (0,)]
        for wrong in no_numbers:
            self.check(BadValue, self.why("place"), store.fill, wrong, ("con", "a"))
            self.check(BadValue, self.why("place"), store.fill, wrong, None)
            self.check(BadValue, self.why("place"), store.free, wrong)
            self.check(BadValue, self.why("mark"), store.marks, wrong, 0)
            self.check(BadValue, self.why("mark"), store.marks, 0, wrong)
            self.check(BadValue, self.why("length"), store.undo, wrong, 0)
            self.check(BadValue, self.why("length"), store.undo, wrong, None)
            self.check(BadValue, self.why("size"), store.undo, 0, wrong)
        self.check(BadValue, self.why("length"), store.undo, 2, 0)
        self.check(BadValue, self.why("size"), store.undo, 1, 3)
        self.check(BadValue, self.why("size"), store.undo, 0, 3)

    def why(self, word):
        """The very string that an error of the store has as its word."""
        try:
            {"names": lambda: Store().build("a", 0), "place": lambda: Store().free(-1), "mark": lambda: Store().marks(-1, 0),
             "length": lambda: Store().undo(1, 0), "size": lambda: Store().undo(0, 1)}[word]()
        except BadValue as error:
            self.assertEqual(error.why, word)
            return error.why

    def test_marks_stay_if_one_is_wrong(self):
        store = Store()
        store.new()
        for args in ((5, -1), (-1, 5)):
            with self.assertRaises(BadValue):
                store.marks(*args)
        store.bind(("h", 0), ("con", "a"))
        self.assertEqual(store.trail(), [])

    def test_names_stay_if_the_term_is_none(self):
        names = {}
        with self.assertRaises(BadTerm):
            self.store.build(("f", (0,), True), names)
        self.assertEqual(names, {})


class Shared(unittest.TestCase):
    def test_terms_read_are_those_of_slow_replacing(self):
        """A variable that is bound twice over is read at each of its places."""
        rng = chance(41)
        for _ in range(300):
            store = Store()
            names = {}
            outer = some_term(rng, 3, (0, 1))
            inner = [some_term(rng, 2, (2, 3)) for _ in range(2)]
            cells = [store.build(term, names) for term in (outer, (0,), (1,))]
            for k in (0, 1):
                store.join(cells[1 + k], store.build(inner[k], names))
            told = store.read(cells[:1])[0][0]
            self.assertEqual(told, slow_renumbered(slow_replaced(outer, {0: inner[0], 1: inner[1]})))


if __name__ == "__main__":
    unittest.main()
