import copy
import unittest

from cases import PRICES, first_dates, some_ways, timed_ways, wide_cases
from listing import all_dates, all_ways, cost_of, houses_of, is_same, may_be_led, numbered, once, same_ways
from things import GREATS
from treewithin.counting import counted
from treewithin.dating import dated, is_dates
from treewithin.grounds import ground
from treewithin.leastways import least_way
from treewithin.times import in_time
from treewithin.trees import leaves, nodes
from treewithin.ways import is_way
from treewithin.withdates import with_dates

GREAT = (("a", "b"), "c")
# Stays: a 0, b 1, c 2 of slice 0; (a,b) 3, c 4 of slice 1; the last house 5.
DATES = (0, 0, 4, 0, 9)
FOUR = (("a", "b"), ("c", "d"))
SMALLS = (
    "a", "c", ("a", "b"), ("a", "c"), ("c", "c"), (("a", "b"), "c"), (("a", "c"), "b"), ("a", ("c", "a")),
    ("a", ("d", "b")), (("c", "a"), "d"),
)


def leaf(*path):
    return (path, "found")


def drawn_dates(great, turn):
    """Dates of a great tree with gaps, by which its houses split in an order that hangs on the turn."""
    houses = nodes(great)
    left = [house for house, node in enumerate(houses) if not isinstance(node, str)]
    done = {house: 0 for house, node in enumerate(houses) if isinstance(node, str)}
    date = turn % 3
    while left:
        free = [house for house in left if all(half in done for half in houses[house])]
        house = free[turn % len(free)]
        turn = turn // 2 + 5 * len(left)
        date += 1 + turn % 7
        done[house] = date
        left.remove(house)
    return tuple(done[house] for house in range(len(houses)))


class WithDatesTest(unittest.TestCase):
    def told(self, small, way, expected):
        self.assertIs(is_way(ground(GREAT), small, way), True)
        self.assertEqual(with_dates(GREAT, DATES, small, way), expected)

    def is_led(self, great, dates, small, way, told):
        stays = dated(great, dates)
        self.assertIs(is_way(stays, small, told), True)
        self.assertTrue(is_same(great, stays, way, told))
        self.assertEqual(counted(stays, told), counted(ground(great), way))

    def test_found(self):
        self.told("a", leaf(0), leaf(0))
        self.told("c", leaf(3), leaf(2))

    def test_split(self):
        self.told(("a", "b"), ((2,), "split", leaf(0), leaf(1)), ((3,), "split", leaf(0), leaf(1)))
        # A house that goes on is gone through slice by slice.
        self.told(("c", "a"), ((4,), "split", leaf(3), leaf(2, 0)), ((5,), "split", leaf(4, 2), leaf(3, 0)))

    def test_doubled(self):
        # The last node comes in as low as it may.
        self.told(("c", "c"), ((3,), "doubled", leaf(3), leaf(3)), ((2,), "doubled", leaf(2), leaf(2)))
        self.told(("a", "b"), ((2,), "doubled", leaf(2, 0), leaf(2, 1)), ((3,), "doubled", leaf(3, 0), leaf(3, 1)))
        self.told(("a", "c"), ((4,), "doubled", leaf(4, 2, 0), leaf(4, 3)), ((5,), "doubled", leaf(5, 3, 0), leaf(5, 4, 2)))

    def test_others_do_their_deed_as_high_as_they_may(self):
        way = ((4,), "split", leaf(2, 0), ((3,), "doubled", leaf(3), leaf(3)))
        self.told(("a", ("c", "c")), way, ((5,), "split", leaf(3, 0), ((4,), "doubled", leaf(4, 2), leaf(4, 2))))

    def test_over_only_to_a_house_of_the_same_time(self):
        self.told(("a", "c"), ((0,), "over", leaf(0), leaf(3)), ((0,), "over", leaf(0), leaf(2)))
        self.told(("a", "c"), ((3,), "over", leaf(2, 0), leaf(3)), ((4,), "over", leaf(3, 0), leaf(4, 2)))
        self.told(("a", "c"), ((2,), "over", leaf(2, 0), leaf(3)), ((3,), "over", leaf(3, 0), leaf(4, 2)))
        # c goes over to a: it has to come down from slice 1 first.
        way = ((4,), "split", leaf(2, 1), ((3,), "over", leaf(3), leaf(0)))
        self.told(("b", ("c", "a")), way, ((5,), "split", leaf(3, 1), ((4, 2), "over", leaf(2), leaf(0))))

    def test_none_where_a_house_stands_no_more(self):
        # From under (a,b) to (c,d): only where (c,d) splits later.
        way = ((0,), "over", leaf(0), leaf(5, 3))
        self.assertIs(is_way(ground(FOUR), ("a", "c"), way), True)
        self.assertEqual(with_dates(FOUR, (0, 0, 7, 0, 0, 2, 9), ("a", "c"), way), ((4,), "over", leaf(4, 0), leaf(6, 2)))
        self.assertIsNone(with_dates(FOUR, (0, 0, 2, 0, 0, 7, 9), ("a", "c"), way))

    def test_of_one_house(self):
        self.assertEqual(with_dates("a", (0,), "a", leaf(0)), leaf(0))
        way = ((0,), "doubled", leaf(0), ((0,), "doubled", leaf(0), leaf(0)))
        self.assertEqual(with_dates("a", (0,), ("a", ("a", "a")), way), way)

    def test_against_all_ways_of_the_dated_ground_one_by_one(self):
        seen = {True: 0, False: 0}
        for great, all_of_them in ((GREAT, [DATES, (0, 0, 98, 0, 99)]), (("a", "b"), [(0, 0, 1), (0, 0, 99)]),
                                   (("c", ("b", "a")), [(0, 0, 0, 1, 2)]), (FOUR, all_dates(FOUR))):
            for dates in all_of_them:
                stays = dated(great, dates)
                for small in [small for small in SMALLS if set(leaves(small)) <= set(leaves(great))]:
                    same = {}
                    houses = houses_of(great, stays)
                    for way in sorted(all_ways(stays, small), reverse=True):
                        same[tuple((once(houses[stay] for stay in part[0]), part[1]) for part in numbered(way))] = way
                    for way in all_ways(ground(great), small):
                        expected = same.get(tuple((part[0], part[1]) for part in numbered(way)))
                        seen[expected is None] += 1
                        self.assertEqual(with_dates(great, dates, small, way), expected)
        self.assertGreater(min(seen.values()), 150)

    def test_against_all_that_are_the_same(self):
        seen = {0: 0, 1: 0, 2: 0}
        for great, small, way in timed_ways():
            for dates in all_dates(great)[::3]:
                stays = dated(great, dates)
                same = same_ways(great, stays, way)
                seen[min(len(same), 2)] += 1
                self.assertEqual(with_dates(great, dates, small, way), min(same, default=None))
        self.assertGreater(min(seen.values()), 100)

    def test_dates_with_gaps_in_any_order(self):
        seen = {True: 0, False: 0}
        for great, small, way in timed_ways()[::3]:
            for turn in range(4):
                dates = drawn_dates(great, turn)
                self.assertIs(is_dates(great, dates), True)
                same = same_ways(great, dated(great, dates), way)
                told = with_dates(great, dates, small, way)
                self.assertEqual(told, min(same, default=None))
                seen[told is None] += 1
                if told is not None:
                    self.is_led(great, dates, small, way, told)
        self.assertGreater(min(seen.values()), 100)

    def test_the_dates_that_in_time_tells(self):
        seen = 0
        for great, small, way in timed_ways():
            kind, dates = in_time(great, small, way)
            if kind == "dates":
                seen += 1
                self.is_led(great, dates, small, way, with_dates(great, dates, small, way))
            else:
                for dates in all_dates(great)[::5]:
                    self.assertIsNone(with_dates(great, dates, small, way))
        self.assertGreater(seen, 100)

    def test_on_wide_grounds(self):
        seen = {True: 0, False: 0}
        for great, stays, small in wide_cases()[::2]:
            ways = some_ways(great, small, 6) + [least_way(stays, small, prices) for prices in PRICES[:7]]
            for place, way in enumerate(ways):
                kind, dates = in_time(great, small, way)
                if kind == "dates":
                    told = with_dates(great, dates, small, way)
                    self.is_led(great, dates, small, way, told)
                    prices = PRICES[place % len(PRICES)]
                    self.assertEqual(cost_of(dated(great, dates), told, prices), cost_of(stays, way, prices))
                for dates in (first_dates(great), drawn_dates(great, place)):
                    told = with_dates(great, dates, small, way)
                    self.assertIs(told is not None, may_be_led(great, dated(great, dates), way))
                    seen[told is None] += 1
                    if told is not None:
                        self.is_led(great, dates, small, way, told)
        self.assertGreater(min(seen.values()), 50)

    def test_a_least_way_led_at_least_costs_as_much_on_the_dated_ground(self):
        for great, stays, small in wide_cases()[1::2]:
            for prices in PRICES[:4]:
                way = least_way(ground(great), small, prices)
                told = with_dates(great, first_dates(great), small, way)
                if told is not None:
                    self.assertEqual(cost_of(stays, told, prices), cost_of(stays, least_way(stays, small, prices), prices))

    def test_ways_that_only_split_may_be_led_by_any_dates(self):
        for great in GREATS:
            way = least_way(ground(great), great, (0, 1, 1, 1))
            for turn in range(5):
                dates = drawn_dates(great, turn)
                self.is_led(great, dates, great, way, with_dates(great, dates, great, way))

    def test_asked_again_the_same_is_told(self):
        for great, small, way in timed_ways()[::9]:
            dates = first_dates(great)
            before = copy.deepcopy((great, dates, small, way))
            told = with_dates(great, dates, small, way)
            self.assertEqual(with_dates(great, dates, small, way), told)
            self.assertEqual((great, dates, small, way), before)
