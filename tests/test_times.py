import copy
import unittest

from cases import PRICES, some_ways, timed_ways, wide_cases
from listing import all_dates, all_ways, listed_links, may_be_led
from things import GREATS
from treewithin.dating import dated, is_dates
from treewithin.grounds import ground
from treewithin.numbers import way_at
from treewithin.times import in_time, links
from treewithin.ways import is_way

GREAT = (("a", "b"), ("c", "d"))
# Houses: a 0, b 1, (a,b) 2, c 3, d 4, (c,d) 5, the last one 6.
HOUSES = ((("house", 6), ("house", 2)), (("house", 6), ("house", 5)))


def leaf(*path):
    return (path, "found")


def house(number):
    return ("house", number)


def thing(number):
    return ("thing", number)


class LinksTest(unittest.TestCase):
    def told(self, small, way, more):
        self.assertIs(is_way(ground(GREAT), small, way), True)
        self.assertEqual(links(GREAT, small, way), tuple(sorted(HOUSES + more)))

    def test_found(self):
        self.told("a", leaf(0), ())

    def test_split(self):
        # A node that splits does so at its house's moment, and leaves have none.
        self.told(("a", "b"), ((2,), "split", leaf(0), leaf(1)), ())
        self.told(("a", "c"), ((6,), "split", leaf(2, 0), leaf(5, 3)), ())

    def test_doubled(self):
        self.told(("a", "b"), ((2,), "doubled", leaf(2, 0), leaf(2, 1)), ((house(6), thing(2)), (thing(2), house(2))))

    def test_doubled_at_a_leaf(self):
        self.told(("a", "a"), ((0,), "doubled", leaf(0), leaf(0)), ((house(2), thing(2)),))

    def test_doubled_at_the_last_house(self):
        way = ((6,), "doubled", leaf(6, 2, 0), leaf(6, 2, 1))
        self.told(("a", "b"), way, ((thing(2), house(6)),))

    def test_over_from_leaf_to_leaf(self):
        self.told(("a", "c"), ((0,), "over", leaf(0), leaf(3)), ((house(2), thing(2)), (house(5), thing(2))))
        self.told(("c", "a"), ((0,), "over", leaf(3), leaf(0)), ((house(2), thing(2)), (house(5), thing(2))))
        self.told(("a", "b"), ((1,), "over", leaf(0), leaf(1)), ((house(2), thing(2)),))

    def test_over_from_a_house_to_a_house(self):
        more = ((house(6), thing(2)), (thing(2), house(2)), (thing(2), house(5)))
        self.told(("a", "c"), ((2,), "over", leaf(2, 0), leaf(5, 3)), more)
        self.told(("a", "c"), ((5,), "over", leaf(2, 0), leaf(5, 3)), more)

    def test_over_from_a_leaf_to_a_house_and_back(self):
        more = ((house(2), thing(2)), (house(6), thing(2)), (thing(2), house(5)))
        self.told(("a", "c"), ((0,), "over", leaf(0), leaf(5, 3)), more)
        self.told(("a", "c"), ((5,), "over", leaf(0), leaf(5, 3)), more)

    def test_a_node_that_splits_ahead_of_one_that_is_doubled(self):
        way = ((6,), "split", ((2, 0), "doubled", leaf(0), leaf(0)), leaf(5, 3))
        self.told((("a", "a"), "c"), way, ((house(2), thing(2)), (house(6), thing(2))))

    def test_one_that_is_doubled_ahead_of_one_that_splits(self):
        way = ((6,), "doubled", ((6, 2), "split", leaf(0), leaf(1)), leaf(6, 5, 3))
        self.told((("a", "b"), "c"), way, ((thing(4), house(6)), (thing(4), house(2))))

    def test_one_that_goes_over_ahead_of_one_that_splits(self):
        way = ((3,), "over", ((2,), "split", leaf(0), leaf(1)), leaf(3))
        self.told((("a", "b"), "c"), way, (
            (house(5), thing(4)), (house(6), thing(4)), (thing(4), house(2)),
        ))

    def test_one_of_two_splits_ahead_of_the_other(self):
        way = ((6,), "split", ((2,), "split", leaf(0), leaf(1)), ((5,), "split", leaf(3), leaf(4)))
        self.told((("a", "b"), ("c", "d")), way, ())

    def test_things_ahead_of_things(self):
        way = ((0,), "doubled", leaf(0), ((0,), "over", leaf(0), leaf(1)))
        self.told(("a", ("a", "b")), way, ((house(2), thing(3)), (house(2), thing(4)), (thing(4), thing(3))))

    def test_of_one_house(self):
        way = ((0,), "doubled", leaf(0), ((0,), "doubled", leaf(0), leaf(0)))
        self.assertEqual(links("a", ("a", ("a", "a")), way), ((thing(4), thing(3)),))
        self.assertEqual(links("a", "a", leaf(0)), ())
        self.assertEqual(links(("a", "b"), "a", leaf(0)), ())
        self.assertEqual(links(("a", "b"), ("a", "b"), ((2,), "split", leaf(0), leaf(1))), ())

    def test_against_the_words_of_the_document(self):
        for great, small, way in timed_ways():
            self.assertEqual(links(great, small, way), listed_links(great, small, way))

    def test_on_wide_grounds(self):
        for great, stays, small in wide_cases()[::2]:
            for way in some_ways(great, small, 20):
                self.assertEqual(links(great, small, way), listed_links(great, small, way))

    def test_kinds(self):
        told = links(GREAT, ("a", "c"), ((0,), "over", leaf(0), leaf(3)))
        self.assertIs(type(told), tuple)
        for pair in told:
            self.assertEqual([type(part) for part in (pair,) + pair], [tuple, tuple, tuple])
            for name, number in pair:
                self.assertEqual((type(name), type(number)), (str, int))


class InTimeTest(unittest.TestCase):
    def is_ring(self, great, small, way, told):
        pairs = links(great, small, way)
        self.assertIs(type(told), tuple)
        self.assertGreaterEqual(len(told), 2)
        self.assertEqual(len(set(told)), len(told))
        for pair in zip(told, told[1:] + told[:1]):
            self.assertIn(pair, pairs)

    def test_dates_of_one_leaf(self):
        self.assertEqual(in_time("a", "a", leaf(0)), ("dates", (0,)))
        self.assertEqual(in_time("a", ("a", "a"), ((0,), "doubled", leaf(0), leaf(0))), ("dates", (0,)))
        self.assertEqual(in_time("a", ("a", ("a", "a")), ((0,), "doubled", leaf(0), ((0,), "doubled", leaf(0), leaf(0)))),
                         ("dates", (0,)))

    def test_dates_by_which_it_goes_over_early_enough(self):
        # From a leaf under the one house to the other house: that one has to split first.
        for way, later, former in (
            (((0,), "over", leaf(0), leaf(5, 3)), 5, 2), (((2,), "over", leaf(2, 0), leaf(3)), 2, 5),
        ):
            kind, dates = in_time(GREAT, ("a", "c"), way)
            self.assertEqual(kind, "dates")
            self.assertIs(is_dates(GREAT, dates), True)
            self.assertLess(dates[later], dates[former])
            self.assertTrue(may_be_led(GREAT, dated(GREAT, dates), way))

    def test_a_ring(self):
        # From under (a,b) to (c,d), and from under (c,d) to (a,b).
        way = ((0,), "over", leaf(0), ((5, 3), "over", leaf(3), leaf(2, 1)))
        small = ("a", ("c", "b"))
        self.assertIs(is_way(ground(GREAT), small, way), True)
        kind, ring = in_time(GREAT, small, way)
        self.assertEqual(kind, "ring")
        self.is_ring(GREAT, small, way, ring)
        for dates in all_dates(GREAT):
            self.assertFalse(may_be_led(GREAT, dated(GREAT, dates), way))

    def test_a_ring_of_two_things_apart(self):
        # Neither is ahead of the other: houses alone close the ring.
        small = (("a", "c"), ("d", "b"))
        way = ((6,), "doubled", ((6, 2, 0), "over", leaf(0), leaf(5, 3)), ((6, 5, 4), "over", leaf(4), leaf(2, 1)))
        self.assertIs(is_way(ground(GREAT), small, way), True)
        kind, ring = in_time(GREAT, small, way)
        self.assertEqual(kind, "ring")
        self.assertEqual(set(ring), {house(2), thing(2), house(5), thing(5)})
        self.is_ring(GREAT, small, way, ring)

    def test_a_ring_through_what_splits(self):
        # It goes over from under (a,b), and what comes of it splits with (a,b).
        way = ((0,), "over", leaf(0), ((3,), "over", leaf(3), ((2,), "split", leaf(0), leaf(1))))
        small = ("a", ("c", ("a", "b")))
        self.assertIs(is_way(ground(GREAT), small, way), True)
        kind, ring = in_time(GREAT, small, way)
        self.assertEqual(kind, "ring")
        self.is_ring(GREAT, small, way, ring)

    def test_against_all_dates_one_by_one(self):
        seen = {"dates": 0, "ring": 0}
        fits = {}
        for great, small, way in timed_ways():
            if great not in fits:
                fits[great] = [(dates, dated(great, dates)) for dates in all_dates(great)]
            kind, told = in_time(great, small, way)
            seen[kind] += 1
            if kind == "dates":
                self.assertIs(is_dates(great, told), True)
                self.assertTrue(may_be_led(great, dated(great, told), way))
            else:
                self.is_ring(great, small, way, told)
                self.assertFalse(any(may_be_led(great, stays, way) for dates, stays in fits[great]))
        self.assertGreater(min(seen.values()), 50)

    def test_all_ways_of_some_small_trees(self):
        stays = {dates: dated(GREAT, dates) for dates in all_dates(GREAT)}
        for small in (("a", "c"), ("a", ("c", "b")), (("a", "c"), "a")):
            for way in all_ways(ground(GREAT), small):
                kind, told = in_time(GREAT, small, way)
                fitting = [dates for dates in stays if may_be_led(GREAT, stays[dates], way)]
                if kind == "dates":
                    self.assertIn(told, fitting)
                else:
                    self.assertEqual((kind, fitting), ("ring", []))
                    self.is_ring(GREAT, small, way, told)

    def test_on_wide_grounds(self):
        seen = {"dates": 0, "ring": 0}
        for great, stays, small in wide_cases()[::2]:
            ways = some_ways(great, small, 10) + [way_at(ground(great), small, prices, 0) for prices in PRICES[:6]]
            for way in ways:
                told = in_time(great, small, way)
                self.assertIs(type(told), tuple)
                seen[told[0]] += 1
                if told[0] == "dates":
                    self.assertIs(is_dates(great, told[1]), True)
                    self.assertTrue(may_be_led(great, dated(great, told[1]), way))
                else:
                    self.is_ring(great, small, way, told[1])
        self.assertGreater(min(seen.values()), 20)

    def test_ways_that_only_split_fit(self):
        for great in GREATS:
            way = way_at(ground(great), great, (0, 1, 1, 1), 0)
            kind, dates = in_time(great, great, way)
            self.assertEqual(kind, "dates")
            self.assertIs(is_dates(great, dates), True)

    def test_asked_again_the_same_is_told(self):
        for great, small, way in timed_ways()[::7]:
            before = copy.deepcopy((great, small, way))
            told = (links(great, small, way), in_time(great, small, way))
            self.assertEqual((links(great, small, way), in_time(great, small, way)), told)
            self.assertEqual((great, small, way), before)
