"""Points 50, 51 and 53: trees put in the place of params."""

import unittest

from callmelt.names import all_words, bound_words, free_words
from callmelt.programs import Program
from callmelt.puts import put_in
from callmelt.reader import read_tree
from callmelt.texts import show_tree
from callmelt.trees import depth_of, is_plain, is_tree, nodes, size_of
from callmelt.words import fresh
from tests.helper import grown_programs


class TestPutIn(unittest.TestCase):
    def check(self, params, row, body, words, tree):
        """All told as texts, the trees of the row with a bar between each two."""
        trees = tuple(read_tree(text) for text in row.split(" | ") if text)
        with self.subTest((params, row, body)):
            found = put_in(tuple(params.split()), trees, read_tree(body))
            self.assertIsInstance(found, tuple)
            self.assertEqual((found[0], show_tree(found[1])), (tuple(words.split()), tree))

    def test_no_params(self):
        for body in ["1", "yes", "(f)", "(let a 1 (loop b a c 2 (+ b c)))", "(try (raise a) a (mark 1 2))"]:
            self.check("", "", body, "", body)

    def test_plain_trees_are_put(self):
        self.check("a", "7", "a", "a", "7")
        self.check("a", "yes", "(if a a no)", "a", "(if yes yes no)")
        self.check("a", "b", "(+ a (many a))", "a", "(+ b (many b))")
        self.check("a b c d", "1 | no | x | y", "(parts d c b a)", "a b c d", "(parts y x no 1)")
        self.check("a", "7", "(f 1)", "a", "(f 1)")

    def test_a_name_put_in_each_form(self):
        self.check("a", "z", "(do a (parts a 1 (pick 2 a) (many a)))", "a", "(do z (parts z 1 (pick 2 z) (many z)))")
        self.check("a", "z", "(if a (- a a) (mark 3 a))", "a", "(if z (- z z) (mark 3 z))")
        self.check("a", "z", "(let b a (+ a b))", "a", "(let b z (+ z b))")
        self.check("a", "z", "(loop b a c a (+ a (+ b c)))", "a", "(loop b z c z (+ z (+ b c)))")
        self.check("a", "z", "(try a a (raise a))", "a", "(try z a (raise a))")
        self.check("a", "z", "(a a (a))", "a", "(a z (a))")

    def test_other_trees_are_bound(self):
        self.check("a", "(f)", "(+ a a)", "a", "(+ a a)")
        self.check("a b", "(f b) | (+ a b)", "(+ a b)", "a b", "(+ a b)")
        self.check("a b", "(parts) | 3", "(+ a b)", "a b", "(+ a 3)")
        # Names in trees that are not plain are not put.
        self.check("a", "(+ b 1)", "(let b a (+ a b))", "a", "(let b a (+ a b))")

    def test_a_param_is_put_where_it_stands_free_only(self):
        self.check("a", "7", "(let a (+ a 1) (+ a 2))", "a", "(let a (+ 7 1) (+ a 2))")
        self.check("a", "7", "(+ (let a 1 a) a)", "a", "(+ (let a 1 a) 7)")
        self.check("a b", "7 | 8", "(loop a a b b (+ a b))", "a b", "(loop a 7 b 8 (+ a b))")
        self.check("a", "7", "(loop b a a a (+ a b))", "a", "(loop b 7 a 7 (+ a b))")
        self.check("a", "7", "(let a a (let a a a))", "a", "(let a 7 (let a a a))")

    def test_all_at_once(self):
        self.check("a b", "b | a", "(- a b)", "a b", "(- b a)")
        self.check("a b c", "b | c | 1", "(parts a b c)", "a b c", "(parts b c 1)")
        self.check("a b c", "c | a | b", "(let d a (parts a b c d))", "a b c", "(let d c (parts c a b d))")
        self.check("a", "a", "(+ a a)", "a", "(+ a a)")

    def test_a_word_put_that_a_let_binds(self):
        self.check("a", "b", "(let b 1 (+ a b))", "a", "(let b1 1 (+ b b1))")
        self.check("a", "b", "(let b a (+ a b))", "a", "(let b1 b (+ b b1))")
        self.check("a", "b", "(let b 1 (let b b (+ a b)))", "a", "(let b1 1 (let b1 b1 (+ b b1)))")
        # Wherever it is bound, also where nothing is put below it.
        self.check("a", "b", "(+ a (let b 1 b))", "a", "(+ b (let b1 1 b1))")
        self.check("a", "b", "(let b 1 b)", "a", "(let b1 1 b1)")
        self.check("a", "b", "(+ (let b 1 (+ a b)) (let b 2 (+ b a)))", "a", "(+ (let b1 1 (+ b b1)) (let b1 2 (+ b1 b)))")

    def test_a_word_put_that_is_a_put_params_word_and_bound(self):
        self.check("a", "a", "(let a (+ a 1) a)", "a", "(let a1 (+ a 1) a1)")
        self.check("a b", "b | a", "(let a b (+ a b))", "a b", "(let a1 a (+ a1 a))")
        self.check("a b", "b | 1", "(let b (+ a b) (+ a b))", "a b", "(let b1 (+ b 1) (+ b b1))")

    def test_a_word_put_that_a_loop_binds(self):
        self.check("a", "b", "(loop b a c 2 (+ a (+ b c)))", "a", "(loop b1 b c 2 (+ b (+ b1 c)))")
        self.check("a", "c", "(loop b a c a (+ a (+ b c)))", "a", "(loop b c c1 c (+ c (+ b c1)))")
        self.check("a d", "b | c", "(loop b a c d (+ a (* b (+ c d))))", "a d", "(loop b1 b c1 c (+ b (* b1 (+ c1 c))))")

    def test_a_word_put_that_is_a_bound_params(self):
        self.check("a b", "b | (f)", "(+ a b)", "a b1", "(+ b b1)")
        self.check("a b", "(f) | a", "(+ a b)", "a1 b", "(+ a1 a)")
        self.check("a b", "(f) | a", "(let a (+ a 1) (+ a b))", "a1 b", "(let a1 (+ a1 1) (+ a1 a))")
        self.check("a b c d", "(f) | a | (g) | c", "(parts a b c d)", "a1 b c1 d", "(parts a1 a c1 c)")
        self.check("a b", "(f) | a", "7", "a1 b", "7")

    def test_a_bound_param_that_is_no_word_put_stays(self):
        self.check("a b", "(f) | c", "(let c 1 (+ a (+ b c)))", "a b", "(let c1 1 (+ a (+ c c1)))")
        self.check("a b", "(f) | c", "(let a 1 (+ a b))", "a b", "(let a 1 (+ a c))")

    def test_new_words_are_unlike_all_words_of_the_body(self):
        self.check("a", "b", "(let b1 1 (let b 2 (parts a b b1)))", "a", "(let b1 1 (let b2 2 (parts b b2 b1)))")
        self.check("a", "b", "(let b2 1 (let b 2 (parts a b b2)))", "a", "(let b2 1 (let b1 2 (parts b b1 b2)))")
        self.check("a", "b", "(+ (let b2 1 (let b1 1 1)) (let b 2 b))", "a", "(+ (let b2 1 (let b1 1 1)) (let b3 2 b3))")
        self.check("a", "b", "(loop b1 1 b 2 a)", "a", "(loop b1 1 b2 2 b)")

    def test_new_words_are_unlike_all_params(self):
        self.check("a b1", "b | 1", "(let b 2 (+ a b))", "a b1", "(let b2 2 (+ b b2))")
        self.check("a b1 b2", "b | 1 | (f)", "(let b 2 (+ a b))", "a b1 b2", "(let b3 2 (+ b b3))")

    def test_new_words_are_unlike_all_words_put(self):
        self.check("a c", "b | b1", "(let b 2 (parts a b c))", "a c", "(let b2 2 (parts b b2 b1))")
        self.check("a c", "b1 | b", "(let b 2 (parts a b c))", "a c", "(let b2 2 (parts b1 b2 b))")
        # But not unlike words of trees that are not put.
        self.check("a c", "b | (f b1)", "(let b 2 (parts a b c))", "a c", "(let b1 2 (parts b b1 c))")

    def test_words_of_raise_and_try_and_names_of_defs_do_not_count(self):
        self.check("a", "b", "(let b 1 (try (raise b1) b1 (b1 a b)))", "a", "(let b1 1 (try (raise b1) b1 (b1 b b1)))")
        self.check("a", "b", "(let c 1 (try (raise b) b (b a c)))", "a", "(let c 1 (try (raise b) b (b b c)))")
        self.check("a", "b", "(let b 1 (try (raise b) b (b b)))", "a", "(let b1 1 (try (raise b) b (b b1)))")

    def test_the_order_in_which_new_words_are_taken(self):
        self.check("x y", "a1 | a", "(let a 1 (let a1 2 (parts x y a a1)))", "x y",
                   "(let a2 1 (let a3 2 (parts a1 a a2 a3)))")
        self.check("x y", "a | a1", "(let a1 1 (let a 2 (parts x y a a1)))", "x y",
                   "(let a3 1 (let a2 2 (parts a a1 a2 a3)))")
        # Sorted as texts are: a10 stands ahead of a9.
        self.check("x y", "a9 | a10", "(let a9 1 (let a10 2 (parts x y a9 a10)))", "x y",
                   "(let a2 1 (let a1 2 (parts a9 a10 a2 a1)))")
        self.check("x y z", "c | b | b", "(let c 1 (let b 2 (parts x y z)))", "x y z",
                   "(let c1 1 (let b1 2 (parts c b b)))")

    def test_new_words_have_the_stem_alone(self):
        self.check("a", "b7", "(let b7 1 (+ a b7))", "a", "(let b1 1 (+ b7 b1))")
        self.check("a", "abcdefgh999", "(let abcdefgh999 1 a)", "a", "(let abcdefgh1 1 abcdefgh999)")
        self.check("a", "yes5", "(let yes5 1 a)", "a", "(let yes1 1 yes5)")

    def test_trees_put_are_not_looked_through_again(self):
        self.check("a b", "b | 5", "(let c 1 (+ a b))", "a b", "(let c 1 (+ b 5))")
        self.check("a b", "b | (f)", "(let b a b)", "a b1", "(let b1 b b1)")
        self.check("a b", "b | b", "(let b (+ a b) b)", "a b", "(let b1 (+ b b) b1)")

    def test_trees_that_bear_melts(self):
        melt = "(melt f ((b (+ b 1)) (c b)) (let a 1 (+ a b)))"
        self.check("a b", f"{melt} | b", "(let c b (+ a c))", "a b", "(let c b (+ a c))")
        self.check("a b", f"{melt} | a", "(+ a b)", "a1 b", "(+ a1 a)")
        self.check("a b", f"(+ 1 {melt}) | c", "(let c 1 (+ a b))", "a b", "(let c1 1 (+ a c))")

    def test_nothing_handed_in_is_changed(self):
        params, row, body = ("a", "b"), (("name", "b"), ("call", "f", ())), ("let", "b", ("name", "a"), ("name", "b"))
        put_in(params, row, body)
        self.assertEqual((params, row), (("a", "b"), (("name", "b"), ("call", "f", ()))))
        self.assertEqual(body, ("let", "b", ("name", "a"), ("name", "b")))


def binders(tree):
    """What binds each name of a tree, in order: the number of a word bound in it, or the word where it stands free."""
    found, count = [], [0]

    def look(one, bound):
        if one[0] == "name":
            found.append(bound.get(one[1], one[1]))
        elif one[0] == "let":
            look(one[2], bound)
            count[0] += 1
            look(one[3], {**bound, one[1]: count[0]})
        elif one[0] == "loop":
            look(one[2], bound)
            look(one[4], bound)
            count[0] += 2
            look(one[5], {**bound, one[1]: count[0] - 1, one[3]: count[0]})
        else:
            for part in [thing for thing in one[1:] if isinstance(thing, tuple)]:
                for tree in [part] if part and isinstance(part[0], str) else part:
                    look(tree, bound)

    look(tree, {})
    return found


def puts(seed):
    """For each call in many programs: the params and body of its def, and its args."""
    for defs in grown_programs(200, seed):
        program = Program(defs)
        for name in program.names():
            for node in nodes(program.body(name)):
                if node[0] == "call":
                    yield program.params(node[1]), node[2], program.body(node[1])


class TestPromises(unittest.TestCase):
    def test_as_many_nodes_and_the_same_but_for_words_and_plain_trees(self):
        for params, row, body in puts(53):
            words, tree = put_in(params, row, body)
            self.assertTrue(is_tree(tree))
            self.assertEqual((size_of(tree), depth_of(tree)), (size_of(body), depth_of(body)))
            for one, other in zip(nodes(body), nodes(tree)):
                if one[0] == "name":
                    self.assertTrue(is_plain(other))
                else:
                    self.assertEqual(one[0], other[0])
                    if one[0] not in ("let", "loop"):
                        plain = [[thing for thing in node[1:] if not isinstance(thing, tuple)] for node in (one, other)]
                        self.assertEqual(plain[0], plain[1])

    def test_no_name_free_but_bound_params_and_words_put(self):
        for params, row, body in puts(54):
            words, tree = put_in(params, row, body)
            put = [arg[1] for arg in row if arg[0] == "name"]
            bound = [word for word, arg in zip(words, row) if not is_plain(arg)]
            self.assertLessEqual(set(free_words(tree)), set(put + bound))
            # What the body or the row binds is none of the words put.
            self.assertEqual(set(bound_words(tree) + bound) & set(put), set())

    def test_each_name_is_bound_by_what_binds_it_in_the_body(self):
        for params, row, body in puts(55):
            words, tree = put_in(params, row, body)
            meant = {param: arg for param, arg in zip(params, row) if is_plain(arg)}
            written = dict(zip(params, words))
            wanted = []
            for binder in binders(body):
                arg = meant.get(binder, ("name", written.get(binder, binder)))
                wanted.extend([arg[1]] if arg[0] == "name" else [])
            self.assertEqual(binders(tree), wanted)

    def test_new_words_are_those_that_fresh_tells(self):
        renamed = 0
        for params, row, body in puts(56):
            words, tree = put_in(params, row, body)
            put = sorted(set(arg[1] for arg in row if arg[0] == "name"))
            bound = [param for param, arg in zip(params, row) if not is_plain(arg)]
            taken, new = all_words(body) + list(params) + put, {}
            for word in put:
                if word in bound or word in bound_words(body):
                    new[word] = fresh(word, taken)
                    taken.append(new[word])
                    renamed += 1
            self.assertEqual(words, tuple(new.get(param, param) if param in bound else param for param in params))
            self.assertEqual(bound_words(tree), sorted(new.get(word, word) for word in bound_words(body)))
        self.assertGreater(renamed, 100)


if __name__ == "__main__":
    unittest.main()
