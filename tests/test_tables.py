import copy
import unittest

from cases import MOST, PRICES, SMALLS, first_dates, grounds
from listing import all_ways, least_of, parts, ways_from
from things import GREATS, nested
from treewithin.dating import dated
from treewithin.grounds import ground
from treewithin.tables import least, table
from treewithin.trees import leaves

FREE = (("a", "b"), "c")


class TableTest(unittest.TestCase):
    def test_of_one_leaf(self):
        self.assertEqual(table(ground("a"), "a", (0, 2, 3, 1)), ((0,),))
        self.assertEqual(table(ground("a"), ("a", "a"), (0, 2, 3, 1)), ((0,), (0,), (2,)))

    def test_a_leaf(self):
        self.assertEqual(table(ground(FREE), "a", (0, 2, 3, 1)), ((0, None, 1, None, 2),))
        self.assertEqual(table(ground(FREE), "c", (0, 2, 3, 5)), ((None, None, None, 0, 5),))

    def test_a_pair(self):
        self.assertEqual(table(ground(("a", "b")), ("a", "b"), (0, 2, 3, 1)), ((0, None, 1), (None, 0, 1), (3, 3, 0)))
        self.assertEqual(table(ground(("a", "b")), ("b", "a"), (7, 2, 3, 1)), ((None, 0, 1), (0, None, 1), (3, 3, 4)))
        self.assertEqual(table(ground(("a", "b")), ("a", "a"), (0, 2, 9, 1)), ((0, None, 1), (0, None, 1), (2, None, 3)))

    def test_a_step_where_a_house_goes_on_costs_nothing(self):
        stays = dated(FREE, (0, 0, 4, 0, 9))
        self.assertEqual(table(stays, "c", (0, 2, 3, 5)), ((None, None, 0, None, 0, 5),))
        self.assertEqual(table(stays, "a", (0, 2, 3, 5)), ((0, None, None, 5, None, 10),))

    def test_against_all_ways_one_by_one(self):
        for stays in grounds():
            for small in SMALLS:
                known = {}
                rows = [[ways_from(stays, part, stay, known) for stay in range(len(stays))] for part in parts(small)]
                for prices in PRICES:
                    listed = tuple(tuple(least_of(stays, ways, prices) for ways in row) for row in rows)
                    self.assertEqual(table(stays, small, prices), listed)

    def test_none_where_there_is_none(self):
        told = table(ground(("a", "b")), ("a", "a"), (1, 1, 1, 1))
        self.assertIsNone(told[-1][1])
        self.assertIsNone(told[0][1])
        self.assertIsNotNone(told[-1][2])

    def test_kinds(self):
        for stays in grounds():
            for small in SMALLS:
                told = table(stays, small, (0, 2, 3, 1))
                self.assertIs(type(told), tuple)
                self.assertEqual(len(told), len(parts(small)))
                for row in told:
                    self.assertIs(type(row), tuple)
                    self.assertEqual(len(row), len(stays))
                    self.assertLessEqual({type(cost) for cost in row}, {int, type(None)})


class LeastTest(unittest.TestCase):
    def test_examples(self):
        for stays in (ground(FREE), dated(FREE, (0, 0, 4, 0, 9))):
            self.assertEqual(least(stays, "a", (5, 5, 5, 5)), 0)
            self.assertEqual(least(stays, FREE, (0, 2, 3, 1)), 0)
            self.assertEqual(least(stays, FREE, (4, 9, 9, 9)), 8)
            self.assertEqual(least(stays, ("a", "a"), (0, 2, 3, 1)), 2)
            self.assertEqual(least(stays, ("a", "c"), (0, 2, 3, 1)), 1)
            self.assertEqual(least(stays, ("a", "c"), (9, 9, 3, 9)), 3)

    def test_dates_bar_what_goes_over(self):
        # The house of a begins only when the one of c and d has split, or it still stands beside it.
        great = (("a", "b"), ("c", "d"))
        small = ("a", ("c", "d"))
        prices = (1, 1000, 10, 1000)
        self.assertEqual(least(ground(great), small, prices), 11)
        self.assertEqual(least(dated(great, (0, 0, 7, 0, 0, 2, 9)), small, prices), 11)
        self.assertEqual(least(dated(great, (0, 0, 2, 0, 0, 7, 9)), small, prices), 20)

    def test_against_all_ways_one_by_one(self):
        for stays in grounds():
            for small in SMALLS:
                ways = all_ways(stays, small)
                for prices in PRICES:
                    told = least(stays, small, prices)
                    self.assertEqual(told, least_of(stays, ways, prices))
                    self.assertIs(type(told), int)

    def test_great_trees_of_one_to_eight_leaves(self):
        for great in GREATS:
            splits = len(leaves(great)) - 1
            for stays in (ground(great), dated(great, first_dates(great))):
                self.assertEqual(least(stays, great, (0, 2, 3, 1)), 0)
                self.assertEqual(least(stays, great, (1, 50, 50, 50)), splits)
                self.assertEqual(least(stays, great, (50, 50, 1, 50)), splits)
                self.assertEqual(least(stays, great, (MOST, MOST, MOST, MOST)), splits * MOST)

    def test_small_trees_of_one_to_ten_leaves(self):
        for many in range(10):
            small = nested("a", many, lambda tree: (tree, "a"))
            for great in GREATS:
                if "a" in leaves(great):
                    for stays in (ground(great), dated(great, first_dates(great))):
                        self.assertEqual(least(stays, small, (1, 2, 100, 50)), 2 * many)

    def test_asked_again_the_same_is_told(self):
        for stays in grounds():
            for small in SMALLS:
                before = copy.deepcopy((stays, small, PRICES[0]))
                told = (table(stays, small, PRICES[0]), least(stays, small, PRICES[0]))
                self.assertEqual((table(stays, small, PRICES[0]), least(stays, small, PRICES[0])), told)
                self.assertEqual((stays, small, PRICES[0]), before)
