import copy
import itertools
import unittest

from cases import MOST, PRICES, woven
from listing import all_ways, cost_of, least_of
from treewithin.grounds import ground
from treewithin.greats import best_great, best_paper, great_trees
from treewithin.several import together
from treewithin.tablelooks import shows_least
from treewithin.trees import is_great, leaves, plain, text_of

WORDS = (
    ("a",), ("zz",), ("a", "b"), ("a", "ab"), ("a", "b", "c"), ("a", "aa", "aaa"), ("b", "m", "z"), ("a", "b", "c", "d"),
    ("a", "ab", "abc", "b"), ("a", "b", "c", "d", "e"), ("abcdefgh", "b", "ba", "bb", "z"),
)
SEVERAL = (
    ("a",), ("a", "a"), (("a", "a"),), (("b", "a"),), ("b", "a"), (("a", "c"), "b"), ((("a", "c"), "b"),),
    ((("c", "b"), ("a", "c")), ("a", "b")), (("z", ("b", "zz")), "b", ("b", "b"), ("zz", "z")),
    ((("a", "d"), ("c", "b")), (("a", "c"), "a")), ((("a", "b"), ("c", "d")),) * 4,
)
MANY = (
    ((("a", "d"), ("c", ("b", "e"))), ("a", ("c", "e"))), (woven("abcde", 10),), (woven("abcde", 10), woven("edcba", 9)),
    (woven("abcde", 6), "e", woven("acd", 7), ("b", "b")),
)


def trees_over(words):
    """All trees with these leaves in this order."""
    if len(words) == 1:
        return [words[0]]
    told = []
    for place in range(1, len(words)):
        told += itertools.product(trees_over(words[:place]), trees_over(words[place:]))
    return told


def written(tree):
    """The text of a tree."""
    return tree if isinstance(tree, str) else "(" + written(tree[0]) + "," + written(tree[1]) + ")"


def is_plain(tree):
    """Whether the lesser text comes first at each node."""
    return isinstance(tree, str) or (written(tree[0]) <= written(tree[1]) and is_plain(tree[0]) and is_plain(tree[1]))


def listed_greats(words):
    """All plain trees with just these leaves, of all trees put together one by one, by rising texts."""
    told = {tree for order in itertools.permutations(words) for tree in trees_over(order) if is_plain(tree)}
    return tuple(sorted(told, key=written))


def words_in(smalls):
    return tuple(sorted({word for small in smalls for word in leaves(small)}))


class GreatTreesTest(unittest.TestCase):
    def test_examples(self):
        self.assertEqual(great_trees(("a",)), ("a",))
        self.assertEqual(great_trees(("a", "b")), (("a", "b"),))
        # A bracket is less than all letters, so a pair comes ahead of a word.
        self.assertEqual(great_trees(("a", "b", "c")), ((("a", "b"), "c"), (("a", "c"), "b"), (("b", "c"), "a")))

    def test_as_many_as_there_are(self):
        for many, told in ((1, 1), (2, 1), (3, 3), (4, 15), (5, 105)):
            self.assertEqual(len(great_trees(tuple("abcde")[:many])), told)

    def test_against_all_trees_one_by_one(self):
        for words in WORDS:
            self.assertEqual(great_trees(words), listed_greats(words))

    def test_each_is_a_plain_great_tree(self):
        for words in WORDS:
            told = great_trees(words)
            texts = [text_of(tree) for tree in told]
            self.assertEqual(texts, sorted(set(texts)))
            for tree in told:
                self.assertIs(is_great(tree), True)
                self.assertEqual(plain(tree), tree)
                self.assertEqual(tuple(sorted(leaves(tree))), words)

    def test_asked_again_the_same_is_told(self):
        for words in WORDS:
            before = copy.deepcopy(words)
            told = great_trees(words)
            self.assertIs(type(told), tuple)
            self.assertEqual(great_trees(words), told)
            self.assertEqual(words, before)


class BestGreatTest(unittest.TestCase):
    def against_together(self, smalls, prices):
        costs = {great: together(ground(great), smalls, prices)[0] for great in listed_greats(words_in(smalls))}
        cost = min(costs.values())
        trees = tuple(great for great in costs if costs[great] == cost)
        self.assertEqual(best_great(smalls, prices), (cost, trees))
        return len(trees)

    def test_examples(self):
        prices = (0, 2, 3, 1)
        self.assertEqual(best_great(("a",), prices), (0, ("a",)))
        self.assertEqual(best_great(("b", ("a", "b")), prices), (0, (("a", "b"),)))
        self.assertEqual(best_great((("a", "a"), ("a", "a")), prices), (4, ("a",)))
        self.assertEqual(best_great((("b", ("c", "a")),), prices), (0, ((("a", "c"), "b"),)))
        self.assertEqual(best_great((("b", ("c", "a")),), (5, 2, 3, 1)), (6, great_trees(("a", "b", "c"))))
        # Two small trees that ask for unlike great ones.
        self.assertEqual(best_great((("b", ("c", "a")), ("a", ("b", "c"))), (0, 100, 3, 1)),
                         (3, ((("a", "c"), "b"), (("b", "c"), "a"))))

    def test_a_small_tree_of_unlike_leaves_costs_nothing_by_itself(self):
        for words in WORDS:
            for great in great_trees(words)[::7]:
                self.assertEqual(best_great((great,), (0, 2, 3, 1)), (0, (great,)))

    def test_against_together_on_each_ground(self):
        seen = {}
        for smalls in SEVERAL:
            for prices in PRICES:
                many = self.against_together(smalls, prices)
                seen[many] = seen.get(many, 0) + 1
        self.assertGreater(len(seen), 3)

    def test_against_all_ways_one_by_one(self):
        for smalls in SEVERAL[:8]:
            for prices in ((0, 2, 3, 1), (1, 7, 2, 0), (MOST, 1, MOST, 2)):
                costs = {}
                for great in listed_greats(words_in(smalls)):
                    stays = ground(great)
                    costs[great] = sum(least_of(stays, all_ways(stays, small), prices) for small in smalls)
                cost = min(costs.values())
                self.assertEqual(best_great(smalls, prices), (cost, tuple(each for each in costs if costs[each] == cost)))

    def test_five_words_and_small_trees_of_ten_leaves(self):
        for smalls in MANY:
            for prices in ((0, 2, 3, 1), (MOST, MOST - 1, MOST - 2, MOST - 3)):
                self.against_together(smalls, prices)

    def test_at_no_price_all_trees_cost_as_much(self):
        for smalls in SEVERAL + MANY:
            self.assertEqual(best_great(smalls, (0, 0, 0, 0)), (0, great_trees(words_in(smalls))))

    def test_asked_again_the_same_is_told(self):
        for smalls in SEVERAL:
            before = copy.deepcopy(smalls)
            told = best_great(smalls, (0, 2, 3, 1))
            self.assertEqual([type(part) for part in (told,) + told], [tuple, int, tuple])
            self.assertEqual(best_great(smalls, (0, 2, 3, 1)), told)
            self.assertEqual(smalls, before)


class BestPaperTest(unittest.TestCase):
    def holds(self, smalls, prices):
        greats = great_trees(words_in(smalls))
        paper = best_paper(smalls, prices)
        costs = []
        self.assertEqual((type(paper), len(paper)), (tuple, len(greats)))
        for great, pair in zip(greats, paper):
            self.assertEqual([type(part) for part in (pair,) + pair], [tuple] * 3)
            self.assertEqual([len(part) for part in (pair,) + pair], [2, len(smalls), len(smalls)])
            stays = ground(great)
            for small, way, rows in zip(smalls, *pair):
                self.assertIs(shows_least(stays, small, prices, way, rows), True)
            costs.append(sum(cost_of(stays, way, prices) for way in pair[0]))
        told = best_great(smalls, prices)
        self.assertEqual(min(costs), told[0])
        self.assertEqual(tuple(great for great, cost in zip(greats, costs) if cost == told[0]), told[1])

    def test_an_example(self):
        paper = best_paper(("a", ("a", "a")), (0, 2, 3, 1))
        found = ((0,), "found")
        self.assertEqual([pair[0] for pair in paper], [(found, ((0,), "doubled", found, found))])
        for small, rows in zip(("a", ("a", "a")), paper[0][1]):
            self.assertIs(shows_least(ground("a"), small, (0, 2, 3, 1), paper[0][0][0], rows), small == "a")

    def test_each_pair_is_taken(self):
        for smalls in SEVERAL:
            for prices in PRICES:
                self.holds(smalls, prices)

    def test_five_words_and_small_trees_of_ten_leaves(self):
        for smalls in MANY:
            self.holds(smalls, (0, 2, 3, 1))

    def test_asked_again_the_same_is_told(self):
        for smalls in SEVERAL:
            before = copy.deepcopy(smalls)
            told = best_paper(smalls, (0, 2, 3, 1))
            self.assertEqual(best_paper(smalls, (0, 2, 3, 1)), told)
            self.assertEqual(smalls, before)
