import copy
import unittest

from cases import FORKED, MOST, PRICES, SMALLS, grounds, kept_cases, wide_cases
from listing import all_ways, cost_of, kept_ways, least_ways
from treewithin.counting import counted, priced
from treewithin.dating import dated
from treewithin.grounds import ground
from treewithin.leastways import least_way
from treewithin.tables import least
from treewithin.ways import is_way

FREE = (("a", "b"), "c")


def leaf(*path):
    return (path, "found")


class LeastWayTest(unittest.TestCase):
    def test_of_one_leaf(self):
        self.assertEqual(least_way(ground("a"), "a", (0, 2, 3, 1)), leaf(0))
        self.assertEqual(least_way(ground("a"), ("a", "a"), (0, 2, 3, 1)), ((0,), "doubled", leaf(0), leaf(0)))
        self.assertEqual(least_way(dated("a", (0,)), "a", (0, 0, 0, 0)), leaf(0))

    def test_each_deed_where_it_costs_the_least(self):
        stays = ground(("a", "b"))
        self.assertEqual(least_way(stays, ("a", "b"), (0, 9, 9, 1)), ((2,), "split", leaf(0), leaf(1)))
        self.assertEqual(least_way(stays, ("b", "a"), (0, 9, 9, 1)), ((2,), "split", leaf(1), leaf(0)))
        self.assertEqual(least_way(stays, ("a", "b"), (9, 9, 1, 9)), ((0,), "over", leaf(0), leaf(1)))
        self.assertEqual(least_way(stays, ("a", "b"), (9, 1, 9, 0)), ((2,), "doubled", leaf(2, 0), leaf(2, 1)))
        self.assertEqual(least_way(stays, ("a", "a"), (0, 9, 9, 1)), ((0,), "doubled", leaf(0), leaf(0)))

    def test_the_first_of_many(self):
        # Of both stays at which it costs as much, and of all deeds, the first as tuples rise.
        stays = ground(("a", "b"))
        self.assertEqual(least_way(stays, ("a", "b"), (0, 0, 0, 0)), ((0,), "over", leaf(0), leaf(1)))
        self.assertEqual(least_way(stays, ("b", "a"), (0, 0, 0, 0)), ((0,), "over", leaf(1), leaf(0)))
        self.assertEqual(least_way(stays, ("a", "b"), (1, 1, 9, 0)), ((2,), "doubled", leaf(2, 0), leaf(2, 1)))
        self.assertEqual(least_way(stays, ("a", "a"), (0, 0, 0, 0)), ((0,), "doubled", leaf(0), leaf(0)))

    def test_the_shorter_path_first(self):
        stays = dated(("a", "b"), (0, 0, 5))
        # a may be doubled at the last stay of all, or below it where nothing is lost any more.
        self.assertEqual(
            least_way(stays, (("a", "a"), "b"), (0, 0, 9, 0)),
            ((2,), "doubled", ((2,), "doubled", leaf(2, 0), leaf(2, 0)), leaf(2, 1)),
        )

    def test_the_last_nodes_path_is_one_stay_alone(self):
        stays = dated((("a", "b"), "c"), (0, 0, 4, 0, 9))
        self.assertEqual(least_way(stays, "c", (0, 0, 0, 0)), leaf(2))
        self.assertEqual(least_way(stays, ("c", "c"), (0, 1, 9, 0)), ((2,), "doubled", leaf(2), leaf(2)))

    def test_against_all_ways_one_by_one(self):
        for stays in grounds():
            for small in SMALLS:
                ways = all_ways(stays, small)
                for prices in PRICES:
                    self.assertEqual(least_way(stays, small, prices), least_ways(stays, ways, prices)[0])

    def test_the_first_on_wide_grounds(self):
        for stays, small, prices in kept_cases():
            self.assertEqual(least_way(stays, small, prices), kept_ways(stays, small, prices)[0])

    def test_the_first_of_two_paths(self):
        told = least_way(*FORKED)
        self.assertEqual(told[2][0], (33, 30, 26, 21, 15, 8))

    def test_a_way_of_the_least_cost_on_wide_grounds(self):
        for great, stays, small in wide_cases():
            for prices in PRICES:
                told = least_way(stays, small, prices)
                self.assertIs(is_way(stays, small, told), True)
                self.assertEqual(cost_of(stays, told, prices), least(stays, small, prices))
                self.assertEqual(priced(prices, counted(stays, told)), least(stays, small, prices))

    def test_prices_of_thirty_figures(self):
        stays = ground(FREE)
        self.assertEqual(least_way(stays, ("a", "c"), (MOST, MOST, MOST - 1, MOST)), ((0,), "over", leaf(0), leaf(3)))
        self.assertEqual(least_way(stays, ("a", "c"), (MOST - 1, MOST, MOST, 0)), ((4,), "split", leaf(2, 0), leaf(3)))

    def test_none_goes_over_to_another_time(self):
        great = (("a", "b"), ("c", "d"))
        small = ("a", ("c", "d"))
        prices = (1, 1000, 10, 1000)
        late = dated(great, (0, 0, 2, 0, 0, 7, 9))
        self.assertEqual(least_way(late, small, prices), ((0,), "over", leaf(0), ((2,), "over", leaf(2), leaf(3))))
        early = dated(great, (0, 0, 7, 0, 0, 2, 9))
        self.assertEqual(least_way(early, small, prices)[1], "over")
        self.assertEqual(cost_of(early, least_way(early, small, prices), prices), 11)

    def test_asked_again_the_same_is_told(self):
        for stays in grounds():
            for small in SMALLS:
                before = copy.deepcopy((stays, small, PRICES[0]))
                told = least_way(stays, small, PRICES[0])
                self.assertEqual(least_way(stays, small, PRICES[0]), told)
                self.assertEqual((stays, small, PRICES[0]), before)
