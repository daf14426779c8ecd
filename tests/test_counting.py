import copy
import unittest

from listing import all_ways, count_of
from treewithin.counting import counted, priced
from treewithin.dating import dated
from treewithin.grounds import ground

GREAT = (("a", "b"), "c")
FREE = ground(GREAT)
DATED = dated(GREAT, (0, 0, 4, 0, 9))
SMALLS = ("a", ("a", "b"), ("c", "c"), (("a", "b"), "c"), (("a", "c"), ("b", "c")), ((("a", "b"), "b"), "a"))


def leaf(*path):
    return (path, "found")


class CountedTest(unittest.TestCase):
    def test_each_deed(self):
        for way, told in (
            (leaf(0), (0, 0, 0, 0)),
            (((2,), "split", leaf(0), leaf(1)), (1, 0, 0, 0)),
            (((0,), "doubled", leaf(0), leaf(0)), (0, 1, 0, 0)),
            (((0,), "over", leaf(0), leaf(3)), (0, 0, 1, 0)),
            (((2,), "doubled", leaf(2, 0), leaf(2, 1)), (0, 1, 0, 2)),
            (((4,), "doubled", leaf(4, 2, 0), leaf(4, 3)), (0, 1, 0, 3)),
            (((4,), "split", leaf(2, 0), leaf(3)), (1, 0, 0, 1)),
            (((4,), "split", ((2,), "split", leaf(0), leaf(1)), ((3,), "over", leaf(3), leaf(2, 0))), (2, 0, 1, 1)),
        ):
            self.assertEqual(counted(FREE, way), told)

    def test_a_step_where_a_house_goes_on_loses_nothing(self):
        self.assertEqual(counted(DATED, ((4,), "doubled", leaf(4, 2), leaf(4, 2))), (0, 1, 0, 0))
        self.assertEqual(counted(DATED, ((5,), "doubled", leaf(5, 4, 2), leaf(5, 3, 0))), (0, 1, 0, 3))
        self.assertEqual(counted(DATED, ((5,), "split", leaf(4, 2), leaf(3, 1))), (1, 0, 0, 1))

    def test_of_a_nodes_way_that_comes_in_above(self):
        self.assertEqual(counted(FREE, leaf(4, 2, 0)), (0, 0, 0, 2))
        self.assertEqual(counted(FREE, ((4, 2), "split", leaf(0), leaf(1))), (1, 0, 0, 1))

    def test_all_ways(self):
        for stays in (FREE, DATED):
            for small in SMALLS:
                for way in all_ways(stays, small):
                    before = copy.deepcopy(way)
                    told = counted(stays, way)
                    self.assertEqual(told, count_of(stays, way))
                    self.assertEqual([type(part) for part in told], [int] * 4)
                    self.assertIs(type(told), tuple)
                    self.assertEqual(counted(stays, way), told)
                    self.assertEqual(way, before)


class PricedTest(unittest.TestCase):
    def test_each_price_stands_in_its_place(self):
        self.assertEqual(priced((0, 2, 3, 1), (5, 1, 1, 4)), 9)
        for place in range(4):
            prices = tuple(7 if k == place else 0 for k in range(4))
            self.assertEqual(priced(prices, (2, 3, 5, 11)), 7 * (2, 3, 5, 11)[place])

    def test_nought(self):
        self.assertEqual(priced((0, 0, 0, 0), (1, 2, 3, 4)), 0)
        self.assertEqual(priced((9, 9, 9, 9), (0, 0, 0, 0)), 0)

    def test_thirty_figures(self):
        most = 10 ** 30 - 1
        self.assertEqual(priced((most, 0, most, 1), (1, 10, 2, 3)), 3 * most + 3)
        self.assertEqual(priced((most,) * 4, (10 ** 40,) * 4), 4 * most * 10 ** 40)

    def test_asked_again_the_same_is_told(self):
        self.assertEqual(priced((1, 2, 3, 4), (4, 3, 2, 1)), priced((1, 2, 3, 4), (4, 3, 2, 1)))
        self.assertIs(type(priced((1, 2, 3, 4), (4, 3, 2, 1))), int)
