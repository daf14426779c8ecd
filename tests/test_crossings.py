import copy
import math
import unittest
from fractions import Fraction

from cases import DEEDS, MOST, PRICES, SMALLS, grounds, prices_at, wide_cases, with_price
from listing import all_ways, cost_of, count_of, many_by_cost, parts
from treewithin.counting import counted
from treewithin.crossings import crossing_paper, crossings, rests
from treewithin.dating import dated
from treewithin.grounds import ground
from treewithin.tablelooks import shows_least
from treewithin.tables import least, table

TWO = ground(("a", "b"))
THREE = ground((("a", "b"), "c"))
SOME = (PRICES[0], PRICES[1], PRICES[6], PRICES[7], PRICES[8], PRICES[-2], PRICES[-1])


def listed_rests(stays, ways, small, prices, deed):
    """The rests, of all ways one by one."""
    free = with_price(prices, deed, 0)
    told = [None for part in parts(small) if not isinstance(part, str)] + [None]
    for way in ways:
        n = count_of(stays, way)[DEEDS.index(deed)]
        cost = cost_of(stays, way, free)
        told[n] = cost if told[n] is None else min(told[n], cost)
    return tuple(told)


def numbers_at(costs, price):
    """The numbers of the deed that least ways have at a price."""
    sums = {n: cost + n * price for n, cost in enumerate(costs) if cost is not None}
    return [n for n in sums if sums[n] == min(sums.values())]


def rows_of(costs):
    """The rows that come of the rests, by looking between all prices at which two numbers cost as much."""
    known = [(n, cost) for n, cost in enumerate(costs) if cost is not None]
    prices = {Fraction(0)} | {Fraction(high - low, n - m) for n, low in known for m, high in known if n > m and high > low}
    prices = sorted(prices)
    rows = []
    for price, end in zip(prices, prices[1:] + [prices[-1] + 2]):
        (n,) = numbers_at(costs, (price + end) / 2)
        if not rows or rows[-1][0] != n:
            rows.append((n, price.numerator, price.denominator))
    return tuple(rows)


class RestsTest(unittest.TestCase):
    def test_of_one_leaf(self):
        for deed in DEEDS:
            self.assertEqual(rests(ground("a"), "a", (1, 2, 3, 4), deed), (0,))
            self.assertEqual(rests(THREE, "c", (1, 2, 3, 4), deed), (0,))
        self.assertEqual(rests(ground("a"), ("a", "a"), (1, 2, 3, 4), "split"), (2, None))
        self.assertEqual(rests(ground("a"), ("a", "a"), (1, 2, 3, 4), "doubled"), (None, 0))
        self.assertEqual(rests(ground("a"), ("a", "a"), (1, 2, 3, 4), "over"), (2, None))

    def test_of_a_pair(self):
        self.assertEqual(rests(TWO, ("a", "b"), (1, 2, 30, 4), "split"), (10, 0))
        self.assertEqual(rests(TWO, ("a", "b"), (1, 2, 30, 4), "doubled"), (1, 8))
        self.assertEqual(rests(TWO, ("a", "b"), (1, 2, 30, 4), "over"), (1, 0))
        self.assertEqual(rests(TWO, ("a", "a"), (1, 2, 30, 4), "over"), (2, None))

    def test_the_deeds_own_price_is_no_matter(self):
        for deed in DEEDS:
            for price in (0, 1, MOST):
                told = rests(THREE, (("a", "c"), "b"), with_price((1, 2, 3, 1), deed, price), deed)
                self.assertEqual(told, rests(THREE, (("a", "c"), "b"), (1, 2, 3, 1), deed))

    def test_against_all_ways_one_by_one(self):
        for stays in grounds():
            for small in SMALLS:
                ways = all_ways(stays, small)
                for prices in SOME:
                    for deed in DEEDS:
                        listed = listed_rests(stays, ways, small, prices, deed)
                        self.assertEqual(rests(stays, small, prices, deed), listed)

    def test_each_number_on_wide_grounds(self):
        # With the deed at a price above all else, and a little one on top, the cost tells number and rest.
        far = 10 ** 9
        for great, stays, small in wide_cases()[2::5]:
            for deed in DEEDS:
                costs = many_by_cost(stays, small, with_price((1, 2, 3, 1), deed, far))
                told = [None for part in parts(small) if not isinstance(part, str)] + [None]
                for cost in sorted(costs, reverse=True):
                    told[cost // far] = cost % far
                self.assertEqual(rests(stays, small, (1, 2, 3, 1), deed), tuple(told))

    def test_the_least_of_them_is_the_least_cost(self):
        for great, stays, small in wide_cases()[1::2]:
            for prices in SOME:
                for place, deed in enumerate(DEEDS):
                    told = rests(stays, small, prices, deed)
                    sums = [rest + n * prices[place] for n, rest in enumerate(told) if rest is not None]
                    self.assertEqual(min(sums), least(stays, small, prices))
                    self.assertEqual(len(told), len(parts(small)) // 2 + 1)

    def test_kinds(self):
        for deed in DEEDS:
            told = rests(TWO, ("a", ("b", "b")), (1, 2, 3, 1), deed)
            self.assertIs(type(told), tuple)
            self.assertLessEqual({type(rest) for rest in told}, {int, type(None)})


class CrossingsTest(unittest.TestCase):
    def test_of_one_leaf(self):
        for stays in (ground("a"), THREE, dated(("a", "b"), (0, 0, 3))):
            for deed in DEEDS:
                self.assertEqual(crossings(stays, "a", (1, 2, 3, 4), deed), ((0, 0, 1),))

    def test_of_a_pair(self):
        self.assertEqual(crossings(TWO, ("a", "b"), (1, 2, 30, 4), "split"), ((1, 0, 1), (0, 10, 1)))
        self.assertEqual(crossings(TWO, ("a", "b"), (1, 2, 30, 4), "doubled"), ((0, 0, 1),))
        self.assertEqual(crossings(TWO, ("a", "b"), (7, 2, 30, 4), "over"), ((1, 0, 1), (0, 7, 1)))
        self.assertEqual(crossings(ground("a"), ("a", "a"), (1, 2, 3, 4), "doubled"), ((1, 0, 1),))

    def test_what_least_ways_have_at_nought_alone_has_no_row(self):
        # Over costs nothing, and so does a split: at nought both are least, beyond it the split alone.
        self.assertEqual(rests(TWO, ("a", "b"), (0, 2, 3, 4), "over"), (0, 0))
        self.assertEqual(crossings(TWO, ("a", "b"), (0, 2, 3, 4), "over"), ((0, 0, 1),))

    def test_what_least_ways_have_at_one_price_alone_has_no_row(self):
        found = 0
        for great, stays, small in wide_cases():
            for deed in DEEDS:
                costs = rests(stays, small, (1, 1, 1, 1), deed)
                rows = crossings(stays, small, (1, 1, 1, 1), deed)
                for n, p, q in rows[1:]:
                    found += len(numbers_at(costs, Fraction(p, q))) > 2
                self.assertEqual(rows, rows_of(costs))
        self.assertGreater(found, 5)

    def test_parts_of_numbers(self):
        found = [
            row for great, stays, small in wide_cases()
            for deed in DEEDS for row in crossings(stays, small, (4, 7, 9, 5), deed) if row[2] > 1
        ]
        self.assertGreater(len(found), 5)

    def test_against_all_ways_one_by_one(self):
        for stays in grounds():
            for small in SMALLS:
                ways = all_ways(stays, small)
                for prices in SOME:
                    for deed in DEEDS:
                        listed = rows_of(listed_rests(stays, ways, small, prices, deed))
                        self.assertEqual(crossings(stays, small, prices, deed), listed)

    def test_against_the_rests_on_wide_grounds(self):
        for great, stays, small in wide_cases()[::3]:
            for prices in SOME:
                for deed in DEEDS:
                    rows = crossings(stays, small, prices, deed)
                    self.assertEqual(rows, rows_of(rests(stays, small, prices, deed)))
                    self.assertEqual(rows[0][1:], (0, 1))
                    self.assertEqual([row[0] for row in rows], sorted({row[0] for row in rows}, reverse=True))
                    self.assertTrue(all(q >= 1 and math.gcd(p, q) == 1 for n, p, q in rows))
                    told = [Fraction(p, q) for n, p, q in rows]
                    self.assertEqual(told, sorted(set(told)))

    def test_kinds(self):
        for row in crossings(TWO, ("a", "b"), (1, 2, 30, 4), "split"):
            self.assertIs(type(row), tuple)
            self.assertEqual([type(part) for part in row], [int, int, int])


class CrossingPaperTest(unittest.TestCase):
    def hold(self, stays, small, prices, deed):
        told = crossing_paper(stays, small, prices, deed)
        self.assertIs(type(told), tuple)
        rows, papers = told
        self.assertEqual(rows, crossings(stays, small, prices, deed))
        self.assertIs(type(papers), tuple)
        self.assertEqual(len(papers), len(rows))
        for (n, p, q), end, paper in zip(rows, rows[1:] + ((0, 1, 0),), papers):
            self.assertIs(type(paper), tuple)
            way, first, last = paper
            self.assertEqual(count_of(stays, way)[DEEDS.index(deed)], n)
            self.assertEqual(counted(stays, way)[DEEDS.index(deed)], n)
            self.assertIs(shows_least(stays, small, prices_at(prices, deed, p, q), way, first), True)
            self.assertIs(shows_least(stays, small, prices_at(prices, deed, *end[1:]), way, last), True)

    def test_of_one_leaf(self):
        leaf = ((0,), "found")
        self.assertEqual(crossing_paper(ground("a"), "a", (1, 2, 3, 4), "over"), (((0, 0, 1),), ((leaf, ((0,),), ((0,),)),)))
        for deed in DEEDS:
            self.hold(THREE, "c", (1, 2, 3, 4), deed)

    def test_of_a_pair(self):
        rows, papers = crossing_paper(TWO, ("a", "b"), (1, 2, 30, 4), "split")
        self.assertEqual(rows, ((1, 0, 1), (0, 10, 1)))
        self.assertEqual(papers[0], (
            ((2,), "split", ((0,), "found"), ((1,), "found")),
            table(TWO, ("a", "b"), (0, 2, 30, 4)), table(TWO, ("a", "b"), (10, 2, 30, 4)),
        ))
        self.assertEqual(papers[1], (
            ((2,), "doubled", ((2, 0), "found"), ((2, 1), "found")),
            table(TWO, ("a", "b"), (10, 2, 30, 4)), table(TWO, ("a", "b"), (1, 0, 0, 0)),
        ))

    def test_on_small_grounds(self):
        for stays in grounds():
            for small in SMALLS:
                for prices in SOME:
                    for deed in DEEDS:
                        self.hold(stays, small, prices, deed)

    def test_on_wide_grounds(self):
        for great, stays, small in wide_cases()[::2]:
            for prices in ((0, 2, 3, 1), (4, 7, 9, 5), (MOST, MOST - 1, MOST - 2, MOST - 3)):
                for deed in DEEDS:
                    self.hold(stays, small, prices, deed)

    def test_asked_again_the_same_is_told(self):
        for stays in grounds():
            for small in SMALLS:
                before = copy.deepcopy((stays, small, PRICES[0]))
                for deed in DEEDS:
                    for tells in (rests, crossings, crossing_paper):
                        told = tells(stays, small, PRICES[0], deed)
                        self.assertEqual(tells(stays, small, PRICES[0], deed), told)
                self.assertEqual((stays, small, PRICES[0]), before)
