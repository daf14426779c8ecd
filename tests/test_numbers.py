import copy
import unittest

from cases import FORKED, MOST, PRICES, SMALLS, grounds, kept_cases, wide_cases
from listing import all_ways, cost_of, kept_ways, least_ways, many_by_cost
from treewithin.dating import dated
from treewithin.errors import NoWay
from treewithin.grounds import ground
from treewithin.leastways import least_way
from treewithin.numbers import how_many, place_of, way_at
from treewithin.tables import least
from treewithin.ways import is_way

TWO = ground(("a", "b"))
WIDE = ground(((("a", "b"), ("c", "d")), (("e", "f"), ("g", "h"))))
MANY = ((("a", "h"), ("b", "g")), ((("c", "f"), ("d", "e")), ("a", "d")))


def leaf(*path):
    return (path, "found")


def some_places(many):
    """Some places of so many, all of them where they are few."""
    if many <= 30:
        return list(range(many))
    return sorted({0, 1, 2, many // 7, many // 3, many // 3 + 1, many // 2, many - many // 5, many - 2, many - 1})


class HowManyTest(unittest.TestCase):
    def test_examples(self):
        self.assertEqual(how_many(ground("a"), "a", (0, 0, 0, 0)), 1)
        self.assertEqual(how_many(ground("a"), ("a", ("a", "a")), (0, 2, 3, 1)), 1)
        self.assertEqual(how_many(TWO, ("a", "b"), (0, 2, 3, 1)), 1)
        # Either goes over.
        self.assertEqual(how_many(TWO, ("a", "b"), (9, 9, 1, 9)), 2)
        # Either goes over, both split, both are doubled.
        self.assertEqual(how_many(TWO, ("a", "b"), (0, 0, 0, 0)), 4)

    def test_the_last_nodes_path_is_one_stay_alone(self):
        self.assertEqual(how_many(dated((("a", "b"), "c"), (0, 0, 4, 0, 9)), "c", (0, 0, 0, 0)), 1)
        self.assertEqual(how_many(TWO, "a", (0, 0, 0, 0)), 1)

    def test_against_all_least_ways_one_by_one(self):
        for stays in grounds():
            for small in SMALLS:
                ways = all_ways(stays, small)
                for prices in PRICES:
                    told = how_many(stays, small, prices)
                    self.assertEqual(told, len(least_ways(stays, ways, prices)))
                    self.assertIs(type(told), int)

    def test_where_not_all_can_be_listed(self):
        for great, stays, small in wide_cases():
            for prices in ((0, 2, 3, 1), (0, 0, 0, 0), (1, 1, 1, 0)):
                costs = many_by_cost(stays, small, prices)
                self.assertEqual(least(stays, small, prices), min(costs))
                self.assertEqual(how_many(stays, small, prices), costs[min(costs)])
        self.assertGreater(how_many(WIDE, MANY, (0, 0, 0, 0)), 10 ** 8)


class WayAtTest(unittest.TestCase):
    def test_examples(self):
        told = [way_at(TWO, ("a", "b"), (0, 0, 0, 0), k) for k in range(4)]
        self.assertEqual(told, [
            ((0,), "over", leaf(0), leaf(1)), ((1,), "over", leaf(0), leaf(1)),
            ((2,), "doubled", leaf(2, 0), leaf(2, 1)), ((2,), "split", leaf(0), leaf(1)),
        ])
        self.assertEqual(way_at(ground("a"), "a", (MOST, MOST, MOST, MOST), 0), leaf(0))

    def test_against_all_least_ways_one_by_one(self):
        for stays in grounds():
            for small in SMALLS:
                ways = all_ways(stays, small)
                for prices in PRICES:
                    listed = least_ways(stays, ways, prices)
                    for k in some_places(len(listed)):
                        self.assertEqual(way_at(stays, small, prices, k), listed[k])

    def test_every_one_of_some_hundred(self):
        # The one's whole way comes ahead of where the other of the two goes over.
        stays = ground(("c", ("a", "b")))
        for small in ((("a", "b"), ("b", "c")), (("b", ("a", "c")), "a")):
            for prices in ((0, 0, 0, 0), (1, 1, 1, 0), (1, 1, 1, 1)):
                listed = least_ways(stays, all_ways(stays, small), prices)
                told = [way_at(stays, small, prices, k) for k in range(len(listed))]
                self.assertEqual(told, listed)

    def test_on_wide_grounds(self):
        for stays, small, prices in kept_cases():
            listed = kept_ways(stays, small, prices)
            self.assertEqual(how_many(stays, small, prices), len(listed))
            for k in some_places(len(listed))[::3]:
                self.assertEqual(way_at(stays, small, prices, k), listed[k])
                self.assertEqual(place_of(stays, small, prices, listed[k]), k)

    def test_every_one_where_paths_fork(self):
        listed = kept_ways(*FORKED)
        self.assertEqual([way_at(*FORKED, k) for k in range(how_many(*FORKED))], listed)
        self.assertEqual([place_of(*FORKED, way) for way in listed], [0, 1, 2, 3, 4, 5])

    def test_where_not_all_can_be_listed(self):
        for great, stays, small in wide_cases()[::2] + wide_cases()[-3:]:
            for prices in ((0, 2, 3, 1), (0, 0, 0, 0), (MOST, MOST, MOST, MOST)):
                cost = least(stays, small, prices)
                places = some_places(how_many(stays, small, prices))
                told = [way_at(stays, small, prices, k) for k in places]
                self.assertEqual(told[0], least_way(stays, small, prices))
                self.assertEqual(told, sorted(told))
                self.assertEqual(len(set(told)), len(told))
                for way in told:
                    self.assertIs(is_way(stays, small, way), True)
                    self.assertEqual(cost_of(stays, way, prices), cost)

    def test_refused_where_there_are_not_so_many(self):
        for stays in grounds():
            for small in SMALLS:
                for prices in PRICES[:4]:
                    many = how_many(stays, small, prices)
                    way_at(stays, small, prices, many - 1)
                    for k in (many, many + 1, 2 * many, 10 ** 40, 10 ** 5000):
                        with self.assertRaises(NoWay):
                            way_at(stays, small, prices, k)

    def test_refused_where_there_are_very_many(self):
        many = how_many(WIDE, MANY, (0, 0, 0, 0))
        self.assertIs(is_way(WIDE, MANY, way_at(WIDE, MANY, (0, 0, 0, 0), many - 1)), True)
        with self.assertRaises(NoWay):
            way_at(WIDE, MANY, (0, 0, 0, 0), many)


class PlaceOfTest(unittest.TestCase):
    def test_examples(self):
        prices = (0, 0, 0, 0)
        self.assertEqual(place_of(TWO, ("a", "b"), prices, ((0,), "over", leaf(0), leaf(1))), 0)
        self.assertEqual(place_of(TWO, ("a", "b"), prices, ((2,), "split", leaf(0), leaf(1))), 3)
        self.assertIsNone(place_of(TWO, ("a", "b"), (0, 0, 0, 1), ((2,), "doubled", leaf(2, 0), leaf(2, 1))))
        self.assertEqual(place_of(TWO, ("a", "b"), (0, 0, 0, 1), ((2,), "split", leaf(0), leaf(1))), 2)
        self.assertEqual(place_of(ground("a"), "a", (1, 1, 1, 1), leaf(0)), 0)

    def test_of_all_ways_one_by_one(self):
        for stays in grounds():
            for small in SMALLS:
                ways = all_ways(stays, small)
                for prices in PRICES:
                    listed = least_ways(stays, ways, prices)
                    for k in some_places(len(listed)):
                        told = place_of(stays, small, prices, listed[k])
                        self.assertEqual(told, k)
                        self.assertIs(type(told), int)
                    for way in [way for way in ways if way not in listed][:10]:
                        self.assertIsNone(place_of(stays, small, prices, way))

    def test_every_one_of_some_hundred(self):
        stays = dated(("c", ("a", "b")), (0, 0, 0, 1, 2))
        for small in ((("a", "b"), ("b", "c")), (("b", ("a", "c")), "a")):
            for prices in ((0, 0, 0, 0), (1, 1, 1, 0), (1, 1, 1, 1)):
                listed = least_ways(stays, all_ways(stays, small), prices)
                told = [place_of(stays, small, prices, way) for way in listed]
                self.assertEqual(told, list(range(len(listed))))

    def test_where_not_all_can_be_listed(self):
        for great, stays, small in wide_cases()[1::2]:
            for prices in ((0, 2, 3, 1), (0, 0, 0, 0), (1, 1, 1, 0), (MOST, MOST, MOST, MOST)):
                for k in some_places(how_many(stays, small, prices)):
                    self.assertEqual(place_of(stays, small, prices, way_at(stays, small, prices, k)), k)

    def test_none_of_one_that_is_not_a_least_one_on_wide_grounds(self):
        for great, stays, small in wide_cases():
            way = least_way(stays, small, (0, 2, 3, 1))
            for prices in PRICES:
                is_least = cost_of(stays, way, prices) == least(stays, small, prices)
                self.assertIs(place_of(stays, small, prices, way) is not None, is_least)

    def test_asked_again_the_same_is_told(self):
        for stays in grounds():
            for small in SMALLS:
                for prices in PRICES[:2]:
                    before = copy.deepcopy((stays, small, prices))
                    many = how_many(stays, small, prices)
                    way = way_at(stays, small, prices, many - 1)
                    self.assertEqual(way_at(stays, small, prices, many - 1), way)
                    self.assertEqual(how_many(stays, small, prices), many)
                    self.assertEqual([place_of(stays, small, prices, way) for turn in range(2)], [many - 1, many - 1])
                    self.assertEqual((stays, small, prices), before)
