import copy
import itertools
import unittest

from things import GREATS, TREES, Equal, Grim, leaning, nested, odd_things
from treewithin.trees import ahead_of, alike, is_great, is_small, is_tree, leaves, nodes, plain, text_of


def full(deep, number=0):
    """A tree of 2 ** deep leaves, all unlike."""
    if deep == 0:
        return "".join("abcdefghij"[int(figure)] for figure in str(number))
    return (full(deep - 1, 2 * number), full(deep - 1, 2 * number + 1))


def turned(tree):
    """All trees that come of turning pairs about."""
    if isinstance(tree, str):
        return [tree]
    pairs = list(itertools.product(turned(tree[0]), turned(tree[1])))
    return pairs + [(other, one) for one, other in pairs]


def within(tree):
    """The trees within a tree, by the words of the document."""
    if isinstance(tree, str):
        return [tree]
    return within(tree[0]) + within(tree[1]) + [tree]


class Truths(unittest.TestCase):
    def assert_true(self, told):
        self.assertIs(told, True)

    def assert_false(self, told):
        self.assertIs(told, False)


class IsTreeTest(Truths):
    def test_words(self):
        for word in ("a", "z", "m", "ab", "abcdefgh", "zzzzzzzz"):
            self.assert_true(is_tree(word))

    def test_every_small_letter_and_no_other_sign(self):
        for code in range(0, 1000):
            sign = chr(code)
            self.assertIs(is_tree(sign), sign in "abcdefghijklmnopqrstuvwxyz")
            self.assertIs(is_tree("a" + sign), sign in "abcdefghijklmnopqrstuvwxyz")

    def test_lengths_of_words(self):
        for many in range(0, 20):
            self.assertIs(is_tree("q" * many), 1 <= many <= 8)

    def test_trees(self):
        for tree in TREES + GREATS:
            self.assert_true(is_tree(tree))

    def test_large_and_deep_trees(self):
        self.assert_true(is_tree(full(10)))
        for left in (True, False):
            self.assert_true(is_tree(leaning(60, left)))
            self.assert_true(is_tree(leaning(5000, left)))

    def test_one_wrong_leaf_far_down(self):
        for wrong in ("", "abcdefghi", "A", None, 1, True, ["a", "b"], ("a",), ()):
            for left in (True, False):
                self.assert_false(is_tree(nested(wrong, 50, (lambda t: (t, "a")) if left else (lambda t: ("a", t)))))

    def test_of_anything(self):
        for thing in odd_things():
            self.assert_false(is_tree(thing))


class NumberingTest(unittest.TestCase):
    def test_told_examples(self):
        self.assertEqual(nodes("a"), ("a",))
        self.assertEqual(nodes(("a", "b")), ("a", "b", (0, 1)))
        self.assertEqual(nodes((("a", "b"), "c")), ("a", "b", (0, 1), "c", (2, 3)))
        self.assertEqual(nodes(("c", ("b", "a"))), ("c", "b", "a", (1, 2), (0, 3)))
        self.assertEqual(nodes((("a", "a"), ("a", "b"))), ("a", "a", (0, 1), "a", "b", (3, 4), (2, 5)))
        self.assertEqual(leaves((("a", "c"), ("a", "b"))), ("a", "c", "a", "b"))
        self.assertEqual(leaves("word"), ("word",))
        self.assertEqual(ahead_of("a"), (None,))
        self.assertEqual(ahead_of((("a", "b"), "c")), (2, 2, 4, 4, None))
        self.assertEqual(ahead_of(("c", ("b", "a"))), (4, 3, 3, 4, None))

    def test_by_the_words_of_the_document(self):
        for tree in TREES + GREATS + (full(8),):
            parts = within(tree)
            told = nodes(tree)
            ahead = ahead_of(tree)
            self.assertEqual(len(told), len(parts))
            self.assertEqual(leaves(tree), tuple(part for part in parts if isinstance(part, str)))
            self.assertIsNone(ahead[-1])
            for number, part in enumerate(parts):
                if isinstance(part, str):
                    self.assertEqual(told[number], part)
                else:
                    one = number - 1 - len(within(part[1]))
                    self.assertEqual(told[number], (one, number - 1))
                    self.assertEqual((parts[one], parts[number - 1]), part)
                    self.assertEqual((ahead[one], ahead[number - 1]), (number, number))

    def test_deep_ones(self):
        left = nodes(leaning(50, True))
        self.assertEqual(left[:5], ("a", "b", (0, 1), "b", (2, 3)))
        self.assertEqual((len(left), left[-1]), (101, (98, 99)))
        right = nodes(leaning(50, False))
        self.assertEqual(right[:51], ("b",) * 50 + ("a",))
        self.assertEqual(right[51:], tuple((49 - k, 50 + k) for k in range(50)))
        self.assertEqual(leaves(leaning(50, False)), ("b",) * 50 + ("a",))
        self.assertEqual(leaves(leaning(50, True)), ("a",) + ("b",) * 50)

    def test_kinds(self):
        for tree in TREES:
            for told in (nodes(tree), leaves(tree), ahead_of(tree)):
                self.assertIs(type(told), tuple)
            for node in nodes(tree):
                self.assertIn(type(node), (str, tuple))


class GreatTest(Truths):
    def test_unlike_leaves(self):
        for tree in TREES + GREATS:
            self.assertIs(is_great(tree), len(set(leaves(tree))) == len(leaves(tree)))

    def test_one_to_eight_leaves(self):
        for great in GREATS:
            self.assert_true(is_great(great))

    def test_a_leaf_twice(self):
        for tree in (("a", "a"), (("a", "b"), "a"), ("a", ("b", "a")), (("b", "a"), ("a", "c")), leaning(50, True)):
            self.assert_false(is_great(tree))

    def test_words_that_only_begin_alike(self):
        self.assert_true(is_great((("a", "aa"), ("aaa", "ab"))))

    def test_of_anything(self):
        for thing in odd_things():
            self.assert_false(is_great(thing))

    def test_one_part_held_many_times(self):
        self.assert_false(is_great(nested("a", 60, lambda part: (part, part))))


class SmallTest(Truths):
    def test_often_and_not_all(self):
        great = (("a", "b"), ("c", "d"))
        for tree in ("a", "d", ("a", "a"), (("a", "b"), ("c", "d")), ("d", ("d", ("d", "a"))), (("c", "c"), ("c", "c"))):
            self.assert_true(is_small(great, tree))

    def test_no_leaf_of_the_great_tree(self):
        great = (("a", "b"), ("c", "d"))
        for tree in ("e", "ab", ("a", "e"), ("aa", "a"), (("a", "b"), ("c", "dd")), ((("a", "e"), "b"), "c")):
            self.assert_false(is_small(great, tree))

    def test_every_great_tree_is_small_in_itself(self):
        for great in GREATS:
            self.assert_true(is_small(great, great))
            self.assert_true(is_small(great, (great, great)))
            self.assert_false(is_small(great, (great, "nowhere")))

    def test_ten_leaves_and_deep_ones(self):
        self.assert_true(is_small("a", nested("a", 9, lambda tree: (tree, "a"))))
        self.assert_true(is_small(("a", "b"), leaning(50, True)))
        self.assert_false(is_small(("a", "c"), leaning(50, False)))

    def test_of_anything(self):
        for great in GREATS:
            for thing in odd_things():
                self.assert_false(is_small(great, thing))

    def test_of_no_great_tree_there_is_no_small_one(self):
        for great in odd_things() + [("a", "a"), (("a", "b"), "a")]:
            self.assert_false(is_small(great, "a"))


class TextTest(unittest.TestCase):
    def test_examples(self):
        self.assertEqual(text_of("a"), "a")
        self.assertEqual(text_of("abcdefgh"), "abcdefgh")
        self.assertEqual(text_of(("b", "a")), "(b,a)")
        self.assertEqual(text_of((("b", "a"), ("c", ("a", "a")))), "((b,a),(c,(a,a)))")

    def test_deep_ones(self):
        self.assertEqual(text_of(leaning(50, True)), "(" * 50 + "a" + ",b)" * 50)
        self.assertEqual(text_of(leaning(50, False)), "(b," * 50 + "a" + ")" * 50)

    def test_unlike_trees_have_unlike_texts(self):
        trees = sorted(set(TREES + GREATS), key=text_of)
        self.assertEqual(len({text_of(tree) for tree in trees}), len(trees))


class PlainTest(Truths):
    def test_examples(self):
        self.assertEqual(plain("b"), "b")
        self.assertEqual(plain(("b", "a")), ("a", "b"))
        self.assertEqual(plain(("a", "b")), ("a", "b"))
        self.assertEqual(plain(("ab", "a")), ("a", "ab"))
        self.assertEqual(plain(("a", "a")), ("a", "a"))

    def test_a_bracket_is_less_than_a_letter(self):
        self.assertEqual(plain(("a", ("c", "b"))), (("b", "c"), "a"))

    def test_a_comma_is_less_than_a_letter(self):
        self.assertEqual(plain((("ab", "c"), ("a", "z"))), (("a", "z"), ("ab", "c")))

    def test_texts_of_plain_ones_are_compared(self):
        # As they stand the first text is the lesser one, made plain the second is.
        self.assertEqual(plain((("b", "z"), ("c", "a"))), (("a", "c"), ("b", "z")))
        self.assertEqual(plain((("a", "c"), ("z", "a"))), (("a", "c"), ("a", "z")))

    def test_texts_are_compared_as_they_are_written(self):
        # In a written tree a bracket comes ahead of a word, at whatever depth the two texts part.
        one = (("a", "b"), "c")
        other = ((("d", "e"), "f"), "c")
        self.assertEqual(plain((one, other)), (other, one))
        first = ((("a", "a"), "a"), "a")
        self.assertEqual(
            plain(((first, ("b", "c")), (first, (("b", "b"), "b")))), ((first, (("b", "b"), "b")), (first, ("b", "c")))
        )

    def test_whichever_way_pairs_are_turned(self):
        for tree in TREES + GREATS:
            if len(leaves(tree)) <= 6:
                for other in turned(tree):
                    self.assertEqual(plain(other), plain(tree))
                    self.assert_true(alike(tree, other))

    def test_the_lesser_text_stands_first_everywhere(self):
        for tree in TREES + GREATS + (full(8),):
            told = plain(tree)
            self.assertEqual(sorted(leaves(told)), sorted(leaves(tree)))
            self.assertEqual(plain(told), told)
            for part in within(told):
                if not isinstance(part, str):
                    self.assertLessEqual(text_of(part[0]), text_of(part[1]))

    def test_deep_ones(self):
        self.assertEqual(plain(leaning(50, False)), plain(leaning(50, True)))
        self.assertEqual(plain(leaning(50, True)), nested(("a", "b"), 49, lambda tree: (tree, "b")))


class AlikeTest(Truths):
    def test_turned_about(self):
        self.assert_true(alike(("a", "b"), ("b", "a")))
        self.assert_true(alike((("a", "b"), "c"), ("c", ("b", "a"))))
        self.assert_true(alike("a", "a"))
        self.assert_true(alike(leaning(50, True), leaning(50, False)))

    def test_unlike(self):
        for one, other in (
            ("a", "b"), ("a", "aa"), ("a", ("a", "a")), (("a", "b"), ("a", "c")), (("a", "a"), ("a", "b")),
            ((("a", "b"), "c"), (("a", "c"), "b")), (leaning(50, True), leaning(49, True)),
            ((("a", "b"), ("c", "d")), ((("a", "b"), "c"), "d")),
        ):
            self.assert_false(alike(one, other))
            self.assert_false(alike(other, one))

    def test_of_anything(self):
        for thing in odd_things():
            for tree in ("a", ("a", "b"), leaning(50, True)):
                self.assert_false(alike(thing, tree))
                self.assert_false(alike(tree, thing))
            self.assert_false(alike(thing, thing))


class UnchangedTest(unittest.TestCase):
    def test_asked_again_the_same_is_told(self):
        for tree in TREES:
            for ask in (is_tree, is_great, leaves, nodes, ahead_of, text_of, plain):
                before = copy.deepcopy(tree)
                told = ask(tree)
                self.assertEqual(ask(tree), told)
                self.assertEqual(tree, before)
            self.assertEqual(is_small(tree, tree), is_small(tree, tree))

    def test_what_is_no_tree_is_left_as_it_was(self):
        thing = ["a", ["b"], {"c": ["d"]}]
        for ask in (is_tree, is_great, lambda part: is_small("a", part), lambda part: alike(part, "a")):
            self.assertIs(ask(thing), False)
            self.assertIs(ask(("a", thing)), False)
            self.assertEqual(thing, ["a", ["b"], {"c": ["d"]}])

    def test_one_answer_does_not_hang_on_another(self):
        for first in (Equal(), Grim(), ("a", "b")):
            is_great(first)
            self.assertIs(is_great(("a", "b")), True)
