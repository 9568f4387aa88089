"""Points 3, 21 and 22: programs, what they refuse and what they tell."""

import unittest

from callmelt.errors import Astray, BadDef, Loose, NoDef, Twice, Unfit
from callmelt.programs import Program
from callmelt.trees import depth_of, nodes, size_of
from tests.helper import NAME, ONE, OTHER_THINGS, SUM, YES, nested_lists, nested_tuples, of_depth, of_size, shown

B = ("name", "b")
MELT = ("melt", "f", (), ONE)

# Things that are no def's name, some of which no dict can have as a key.
NO_NAMES = OTHER_THINGS + [
    0, 1, "z", "f1", "F", "def", "yes", ("f",), ["f"], {"f"}, {"f": "f"}, b"f", [], {}, ([],), nested_lists(200),
    nested_tuples(200), "f" * 8000, 10 ** 5000,
]


def sample():
    """Two defs that call each other."""
    return [
        ("f", ("a", "b"), ("do", "+", NAME, ("call", "g", ()))),
        ("g", (), ("call", "f", (ONE, ("call", "f", (ONE, YES))))),
    ]


class TestRefused(unittest.TestCase):
    def refuse(self, defs, error, *fields):
        names = {BadDef: ["at"], Twice: ["name"], Unfit: ["where", "many"]}.get(error, ["where", "word"])
        with self.subTest(shown(defs)):
            with self.assertRaises(error) as caught:
                Program(defs)
            self.assertIs(type(caught.exception), error)
            # The texts tell 1 and True apart, too.
            self.assertEqual(repr([getattr(caught.exception, name) for name in names]), repr(list(fields)))

    def refuse_bodies(self, *bodies):
        for body in bodies:
            self.refuse([("f", (), body)], BadDef, 0)
            self.refuse([("f", (), ONE), ("g", ("a",), body)], BadDef, 1)

    def test_what_is_no_list(self):
        for thing in OTHER_THINGS:
            if not isinstance(thing, list):
                self.refuse(thing, BadDef, 0)
        for thing in [tuple(sample()), {"f": ONE}, "(def f () 1)", sample()[1], 0, nested_tuples(200), iter(sample())]:
            self.refuse(thing, BadDef, 0)

    def test_no_def(self):
        self.refuse([], BadDef, 0)
        self.refuse([[]], BadDef, 0)

    def test_things_that_are_no_def(self):
        good = ("f", (), ONE)
        for thing in OTHER_THINGS + [
            ONE, ("f",), ("f", ()), ("f", (), ONE, ONE), ["f", (), ONE], ("f", ONE), {"f": ONE}, ("f", ONE, ()),
            nested_tuples(199), nested_lists(199), "(def f () 1)", ("f", (), ONE, None),
        ]:
            self.refuse([thing], BadDef, 0)
            self.refuse([good, thing], BadDef, 1)
            self.refuse([good, ("g", (), ONE), thing, thing], BadDef, 2)

    def test_names(self):
        for name in OTHER_THINGS + [0, "F", "def", "if", "f0", "f1000", "abcdefghi", ("f",), ["f"]]:
            self.refuse([(name, (), ONE)], BadDef, 0)

    def test_params(self):
        self.assertEqual(Program([("f", ("a", "b", "c", "d"), ONE)]).params("f"), ("a", "b", "c", "d"))
        self.refuse([("f", ("a", "b", "c", "d", "e"), ONE)], BadDef, 0)
        self.refuse([("f", ("a", "b", "a"), ONE)], BadDef, 0)
        for params in [None, 1, "", "ab", [], ["a"], {}, {"a": 1}, set(), ONE, (1,), (None,), ("A",), ("if",), ("a0",)]:
            self.refuse([("f", params, ONE)], BadDef, 0)
        for params in [(["a"],), ({},), ("a", []), (("a",),), ("a", True), ("a",) * 3000]:
            self.refuse([("f", params, ONE)], BadDef, 0)

    def test_a_param_may_have_the_name_of_a_def(self):
        self.assertEqual(Program([("f", ("f",), ("call", "f", (("name", "f"),)))]).sites("f"), [(0, "f", 1)])

    def test_bodies_that_are_no_tree(self):
        self.refuse_bodies(*OTHER_THINGS)
        self.refuse_bodies(1, "a", "(f)", ["number", 1], ("number", -1), ("number", True), ("many", [ONE]), (ONE,))
        self.refuse_bodies(of_size(2001), of_depth(65), of_depth(190), nested_lists(190))

    def test_bodies_of_40_and_41_nodes(self):
        self.assertEqual(size_of(of_size(40)), 40)
        self.assertEqual(Program([("f", (), of_size(40))]).body("f"), of_size(40))
        self.refuse_bodies(of_size(41), of_size(42), of_size(500))

    def test_bodies_of_depth_8_and_9(self):
        self.assertEqual(depth_of(of_depth(8)), 8)
        self.assertEqual(Program([("f", (), of_depth(8))]).body("f"), of_depth(8))
        self.refuse_bodies(of_depth(9), of_depth(8, ("many", ONE)), of_depth(40))

    def test_bodies_with_melts(self):
        self.refuse_bodies(MELT, ("many", MELT), ("do", "+", ONE, MELT), ("call", "f", (MELT,)), ("parts", (ONE, MELT)))
        self.refuse_bodies(("let", "a", MELT, ONE), ("let", "a", ONE, MELT), ("if", ONE, ONE, ("try", ONE, "a", MELT)))
        self.refuse_bodies(("melt", "f", (("a", NAME),), NAME))

    def test_eight_and_nine_defs(self):
        defs = [(word, (), ONE) for word in "abcdefghi"]
        self.assertEqual(len(Program(defs[:8])), 8)
        self.refuse(defs, BadDef, 8)
        self.refuse(defs * 100, BadDef, 8)
        self.refuse(defs[:8] + [None], BadDef, 8)
        self.refuse(defs[:8] + [("a", (), ONE)], BadDef, 8)
        self.refuse(defs[:7] + [None, None], BadDef, 7)

    def test_twice(self):
        self.refuse([("f", (), ONE), ("f", (), ONE)], Twice, "f")
        self.refuse([("f", (), ONE), ("g", (), ONE), ("g", ("a",), NAME)], Twice, "g")
        self.refuse([("f", (), ONE), ("g", (), ONE), ("g", (), ONE), ("f", (), ONE)], Twice, "g")

    def test_the_first_thing_comes_first(self):
        f, g = ("f", (), ONE), ("g", (), ONE)
        self.refuse([f, f, None], Twice, "f")
        self.refuse([f, None, f], BadDef, 1)
        self.refuse([f, ("f", (), None)], BadDef, 1)
        self.refuse([f, g, g, f, None], Twice, "g")
        self.refuse([(word, (), ONE) for word in "abcdefga"] + [None], Twice, "a")

    def test_forms_come_ahead_of_bodies(self):
        self.refuse([("f", (), NAME), None], BadDef, 1)
        self.refuse([("f", (), ("call", "z", ())), ("f", (), ONE)], Twice, "f")

    def test_loose(self):
        self.refuse([("f", (), NAME)], Loose, ("f", 0), "a")
        self.refuse([("f", ("b",), SUM)], Loose, ("f", 2), "a")
        self.refuse([("f", ("b",), ("let", "a", NAME, ONE))], Loose, ("f", 1), "a")
        self.refuse([("f", (), ("do", "+", ("let", "a", ONE, NAME), NAME))], Loose, ("f", 4), "a")
        self.refuse([("f", (), ("loop", "a", NAME, "b", B, SUM))], Loose, ("f", 1), "a")
        self.refuse([("f", (), ("loop", "a", ONE, "b", B, SUM))], Loose, ("f", 2), "b")
        self.refuse([("f", ("f",), ("do", "+", ("name", "f"), ("name", "g")))], Loose, ("f", 2), "g")
        self.refuse([("f", (), ("try", ONE, "a", NAME))], Loose, ("f", 2), "a")

    def test_another_defs_params_are_not_bound(self):
        self.refuse([("f", ("a",), NAME), ("g", (), NAME)], Loose, ("g", 0), "a")
        self.refuse([("g", (), NAME), ("f", ("a",), NAME)], Loose, ("g", 0), "a")

    def test_bound_names(self):
        for params, body in [
            (("a",), NAME), (("b", "a"), SUM), ((), ("let", "a", ONE, SUM)), (("a",), ("let", "a", NAME, NAME)),
            ((), ("loop", "a", ONE, "b", ONE, ("do", "+", NAME, B))), (("b",), ("loop", "a", B, "c", B, NAME)),
            (("a",), ("do", "+", ("let", "a", ONE, NAME), NAME)), ((), ("let", "b", ONE, ("let", "a", B, ("many", B)))),
        ]:
            self.assertEqual(Program([("f", params, body)]).body("f"), body)

    def test_astray(self):
        self.refuse([("f", (), ("call", "g", ()))], Astray, ("f", 0), "g")
        self.refuse([("f", (), ("do", "+", ONE, ("call", "g", (ONE,))))], Astray, ("f", 2), "g")
        self.refuse([("f", ("g",), ("call", "g", ()))], Astray, ("f", 0), "g")

    def test_unfit(self):
        self.refuse([("f", (), ("call", "f", (ONE,)))], Unfit, ("f", 0), 1)
        self.refuse([("f", ("a",), ("many", ("call", "f", ())))], Unfit, ("f", 1), 0)
        self.refuse([("f", ("a", "b"), ONE), ("g", (), ("call", "f", (ONE, ONE, ONE, ONE)))], Unfit, ("g", 0), 4)

    def test_a_def_may_call_one_behind_it(self):
        self.assertEqual(Program(sample()).names(), ["f", "g"])

    def test_the_first_node_comes_first(self):
        stray, unfit = ("call", "z", ()), ("call", "f", (ONE,))
        self.refuse([("f", (), ("parts", (NAME, stray, unfit)))], Loose, ("f", 1), "a")
        self.refuse([("f", (), ("parts", (stray, NAME, unfit)))], Astray, ("f", 1), "z")
        self.refuse([("f", (), ("parts", (unfit, stray, NAME)))], Unfit, ("f", 1), 1)
        # A call comes ahead of its args, and a deep node ahead of a later part.
        self.refuse([("f", (), ("call", "z", (NAME,)))], Astray, ("f", 0), "z")
        self.refuse([("f", (), ("call", "f", (NAME,)))], Unfit, ("f", 0), 1)
        self.refuse([("f", (), ("do", "+", ("many", ("many", stray)), NAME))], Astray, ("f", 3), "z")
        self.refuse([("f", ("b",), ("let", "a", ("parts", (B, B)), ("do", "+", stray, NAME)))], Astray, ("f", 5), "z")

    def test_a_call_of_no_def_is_not_also_unfit(self):
        self.refuse([("f", (), ("call", "z", (ONE, ONE)))], Astray, ("f", 0), "z")

    def test_the_first_def_comes_first(self):
        self.refuse([("f", (), ("many", ("call", "z", ()))), ("g", (), NAME)], Astray, ("f", 1), "z")
        self.refuse([("g", (), ONE), ("f", (), NAME), ("h", (), B)], Loose, ("f", 0), "a")

    def test_what_is_refused_stays_as_it_was(self):
        defs = [("f", (), NAME), ["g", (), [ONE]]]
        self.assertRaises(BadDef, Program, defs)
        self.assertEqual(defs, [("f", (), NAME), ["g", (), [ONE]]])


class TestTold(unittest.TestCase):
    def test_defs_names_params_body(self):
        program = Program(sample())
        self.assertEqual(program.defs(), sample())
        self.assertEqual(program.names(), ["f", "g"])
        self.assertEqual(program.params("f"), ("a", "b"))
        self.assertEqual(program.params("g"), ())
        self.assertEqual(program.body("f"), sample()[0][2])
        self.assertEqual(program.body("g"), sample()[1][2])

    def test_the_order_is_that_of_the_list(self):
        program = Program(sample()[::-1])
        self.assertEqual(program.names(), ["g", "f"])
        self.assertEqual(program.defs(), sample()[::-1])
        self.assertEqual(program.params("f"), ("a", "b"))

    def test_sites(self):
        program = Program(sample())
        self.assertEqual(program.sites("f"), [(2, "g", 0)])
        self.assertEqual(program.sites("g"), [(0, "f", 1), (2, "f", 2)])
        self.assertEqual(Program([("f", (), ONE)]).sites("f"), [])

    def test_sites_are_told_by_numbers(self):
        call = ("call", "h", (NAME, YES, ONE, ("many", NAME)))
        body = ("if", call, ("let", "b", ("call", "k", ()), call), ("call", "h", (call, NAME, SUM, NAME)))
        program = Program([("f", ("a",), body), ("h", ("a", "b", "c", "d"), ONE), ("k", (), ONE)])
        told = program.sites("f")
        self.assertEqual([(f, plain) for number, f, plain in told], [("h", 3), ("k", 0), ("h", 3), ("h", 2), ("h", 3)])
        calls = [number for number, node in enumerate(nodes(body)) if node[0] == "call"]
        self.assertEqual([number for number, f, plain in told], calls)
        self.assertEqual(calls, [1, 8, 9, 15, 16])

    def test_no_def_of_that_name(self):
        program = Program(sample())
        for ask in [program.params, program.body, program.sites, lambda name: program.changed(name, ONE)]:
            for name in NO_NAMES:
                with self.assertRaises(NoDef) as caught:
                    ask(name)
                self.assertIs(caught.exception.name, name)

    def test_len_and_repr(self):
        for many in [1, 2, 8]:
            program = Program([(word, (), ONE) for word in "abcdefgh"[:many]])
            self.assertEqual(len(program), many)
            self.assertEqual(repr(program), f"Program({many})")

    def test_equal(self):
        self.assertTrue(Program(sample()) == Program(sample()))
        self.assertFalse(Program(sample()) != Program(sample()))
        program = Program(sample())
        self.assertTrue(program == program)

    def test_not_equal(self):
        program = Program(sample())
        for other in [
            Program(sample()[::-1]),
            Program(sample() + [("h", (), ONE)]),
            program.changed("g", ONE),
            Program([("f", ("b", "a"), sample()[0][2]), sample()[1]]),
        ]:
            self.assertFalse(program == other)
            self.assertTrue(program != other)
        one, true = Program([("f", (), ONE)]), Program([("f", (), YES)])
        self.assertFalse(one == true)
        self.assertFalse(Program([("f", (), ONE)]) == Program([("g", (), ONE)]))

    def test_equal_to_nothing_else(self):
        program = Program(sample())
        for thing in OTHER_THINGS + [sample(), tuple(sample()), 2, "Program(2)", program.names(), Program]:
            self.assertIs(program == thing, False)
            self.assertIs(thing == program, False)
            self.assertIs(program != thing, True)


class TestChanged(unittest.TestCase):
    def test_another_program(self):
        program = Program(sample())
        other = program.changed("g", ("many", ("call", "g", ())))
        self.assertIsInstance(other, Program)
        self.assertEqual(other.defs(), [sample()[0], ("g", (), ("many", ("call", "g", ())))])
        self.assertEqual(other.sites("g"), [(1, "g", 0)])
        self.assertEqual(program.changed("f", B).defs(), [("f", ("a", "b"), B), sample()[1]])

    def test_the_program_asked_stays_as_it_was(self):
        program = Program(sample())
        other = program.changed("f", NAME)
        self.assertEqual(program, Program(sample()))
        self.assertEqual(program.body("f"), sample()[0][2])
        self.assertEqual(other.changed("f", sample()[0][2]), program)
        self.assertRaises(BadDef, program.changed, "f", None)
        self.assertRaises(Loose, program.changed, "f", ("name", "z"))
        self.assertEqual(program, Program(sample()))

    def test_the_same_body(self):
        program = Program(sample())
        self.assertEqual(program.changed("f", program.body("f")), program)

    def test_no_def_comes_first(self):
        program = Program(sample())
        for body in [None, MELT, ("name", "z"), ("call", "z", ())]:
            for name in ["z", "F", None, ["f"]]:
                with self.assertRaises(NoDef) as caught:
                    program.changed(name, body)
                self.assertIs(caught.exception.name, name)

    def test_bad_def_at_the_defs_place(self):
        program = Program(sample())
        for body in OTHER_THINGS + [MELT, of_size(41), of_depth(9), ["number", 1], nested_lists(190)]:
            for at, name in enumerate(["f", "g"]):
                with self.assertRaises(BadDef) as caught:
                    program.changed(name, body)
                self.assertEqual(caught.exception.at, at)

    def test_refused_as_a_program_is(self):
        program = Program(sample())
        with self.assertRaises(Loose) as caught:
            program.changed("g", ("many", NAME))
        self.assertEqual((caught.exception.where, caught.exception.word), (("g", 1), "a"))
        with self.assertRaises(Astray) as caught:
            program.changed("g", ("call", "h", (ONE,)))
        self.assertEqual((caught.exception.where, caught.exception.word), (("g", 0), "h"))
        with self.assertRaises(Unfit) as caught:
            program.changed("f", ("many", ("call", "g", (ONE,))))
        self.assertEqual((caught.exception.where, caught.exception.many), (("f", 1), 1))


class TestKept(unittest.TestCase):
    def test_the_list_handed_in_stays_as_it_was(self):
        defs = sample()
        program = Program(defs)
        program.changed("f", ONE)
        program.defs().clear()
        self.assertEqual(defs, sample())

    def test_changing_the_list_behind_the_call_changes_nothing(self):
        defs = sample()
        program = Program(defs)
        defs.reverse()
        defs.append(("h", (), ONE))
        defs[0] = None
        self.assertEqual(program.defs(), sample())
        self.assertEqual((len(program), program.names()), (2, ["f", "g"]))
        self.assertEqual(program, Program(sample()))

    def test_changing_told_lists_changes_nothing(self):
        program = Program(sample())
        for ask in [program.defs, program.names, lambda: program.sites("g")]:
            told = ask()
            kept = list(told)
            told.reverse()
            told.append(None)
            self.assertEqual(ask(), kept)
            again = ask()
            again.clear()
            self.assertEqual(ask(), kept)
        self.assertEqual(program, Program(sample()))

    def test_two_programs_of_one_list_know_nothing_of_each_other(self):
        defs = sample()
        one, other = Program(defs), Program(defs)
        one.defs().pop()
        one.names().pop()
        self.assertEqual(other.defs(), sample())


if __name__ == "__main__":
    unittest.main()
