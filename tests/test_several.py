import copy
import math
import unittest

from cases import MOST, PRICES, SMALLS, grounds, wide_cases, woven
from listing import all_ways, cost_of, kept_ways, least_ways
from treewithin.dating import dated
from treewithin.grounds import ground
from treewithin.several import together
from treewithin.trees import leaves

TWO = ground(("a", "b"))
SEVERAL = (
    ("a",), (("a", "b"),), ("a", "b"), (("a", "b"), ("a", "b")), (("a", "b"), ("b", "a"), ("a", "a")),
    (("a", "a"), "b", (("a", "b"), "a"), ("a", "a")), ((("a", "b"), ("b", "a")),) * 4,
)


class TogetherTest(unittest.TestCase):
    def test_examples(self):
        self.assertEqual(together(TWO, ("a",), (0, 2, 3, 1)), (0, 1))
        self.assertEqual(together(TWO, (("a", "a"),), (0, 2, 3, 1)), (2, 1))
        self.assertEqual(together(TWO, (("a", "a"), ("a", "b"), ("a", "a")), (1, 2, 9, 9)), (5, 1))
        # From a to b or from b to a: two least ways of each.
        self.assertEqual(together(TWO, (("a", "b"),), (9, 9, 3, 9)), (3, 2))
        self.assertEqual(together(TWO, (("a", "b"),) * 4, (9, 9, 3, 9)), (12, 16))
        self.assertEqual(together(TWO, (("a", "b"), "a", ("b", "a")), (9, 9, 3, 9)), (6, 4))

    def test_alike_ones_count_each(self):
        for stays in grounds():
            for small in SMALLS:
                cost, many = together(stays, (small,), (0, 2, 3, 1))
                for often in (2, 3, 4):
                    self.assertEqual(together(stays, (small,) * often, (0, 2, 3, 1)), (cost * often, many ** often))

    def test_against_all_ways_one_by_one(self):
        for stays in grounds():
            ways = {small: all_ways(stays, small) for small in SMALLS}
            for prices in PRICES:
                told = {small: least_ways(stays, ways[small], prices) for small in SMALLS}
                for smalls in SEVERAL:
                    cost = sum(cost_of(stays, told[small][0], prices) for small in smalls)
                    many = math.prod(len(told[small]) for small in smalls)
                    self.assertEqual(together(stays, smalls, prices), (cost, many))

    def test_on_wide_grounds(self):
        for great, stays, small in wide_cases():
            smalls = (small, woven(leaves(great), 3), small, woven(leaves(great)[::-1], 4))
            for prices in ((0, 2, 3, 1), (3, 1, 9, 2), (0, MOST, 1, MOST)):
                told = {each: kept_ways(stays, each, prices) for each in smalls}
                for few in range(1, 5):
                    cost = sum(cost_of(stays, told[each][0], prices) for each in smalls[:few])
                    many = math.prod(len(told[each]) for each in smalls[:few])
                    self.assertEqual(together(stays, smalls[:few], prices), (cost, many))

    def test_dates_bar_what_goes_over(self):
        great = (("a", "b"), ("c", "d"))
        smalls = (("a", ("c", "d")), "a")
        prices = (1, 1000, 10, 1000)
        self.assertEqual(together(ground(great), smalls, prices)[0], 11)
        self.assertEqual(together(dated(great, (0, 0, 2, 0, 0, 7, 9)), smalls, prices)[0], 20)

    def test_asked_again_the_same_is_told(self):
        for stays in grounds():
            for smalls in SEVERAL:
                before = copy.deepcopy((stays, smalls))
                told = together(stays, smalls, (0, 2, 3, 1))
                self.assertEqual([type(part) for part in (told,) + told], [tuple, int, int])
                self.assertEqual(together(stays, smalls, (0, 2, 3, 1)), told)
                self.assertEqual((stays, smalls), before)
