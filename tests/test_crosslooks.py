import copy
import functools
import math
import unittest
from fractions import Fraction

from cases import DEEDS, MOST, grounds, prices_at, wide_cases
from listing import all_ways, count_of, taken
from things import Equal, Grim, nested, odd_things
from treewithin.crossings import crossing_paper
from treewithin.crosslooks import shows_crossings
from treewithin.grounds import ground
from treewithin.leastways import least_way
from treewithin.numbers import how_many, way_at
from treewithin.tables import table

TWO = ground(("a", "b"))
PAIR = (TWO, ("a", "b"), (1, 2, 30, 4), "split")
FEW = ("a", ("a", "b"), ("a", "a"), (("a", "b"), "a"), (("a", "b"), ("b", "a")))
SOME = ((0, 2, 3, 1), (4, 7, 9, 5), (0, 0, 0, 0), (MOST, MOST - 1, MOST - 2, MOST - 3))


@functools.cache
def long_cases():
    """(ground, small, prices, deed) with three rows or more, on wide grounds."""
    told = []
    for great, stays, small in wide_cases():
        for deed in DEEDS:
            if len(crossing_paper(stays, small, (4, 7, 9, 5), deed)[0]) > 2:
                told.append((stays, small, (4, 7, 9, 5), deed))
    return told


def expected(stays, small, prices, deed, rows, papers):
    """What is to be told of rows of whole numbers, and as many papers of a way and two tables."""
    turns = [Fraction(p, q) for n, p, q in rows]
    numbers = [n for n, p, q in rows]
    if not rows or rows[0][1:] != (0, 1) or any(math.gcd(p, q) != 1 for n, p, q in rows):
        return False
    if turns != sorted(set(turns)) or numbers != sorted(set(numbers), reverse=True):
        return False
    for (n, p, q), end, (way, first, last) in zip(rows, rows[1:] + ((0, 1, 0),), papers):
        if count_of(stays, way)[DEEDS.index(deed)] != n:
            return False
        if not taken(stays, small, prices_at(prices, deed, p, q), way, first):
            return False
        if not taken(stays, small, prices_at(prices, deed, *end[1:]), way, last):
            return False
    return True


def put(row, place, part):
    """A tuple with another part at a place."""
    return row[:place] + (part,) + row[place + 1:]


class ShowsCrossingsTest(unittest.TestCase):
    def refuses(self, case, rows, papers):
        self.assertIs(shows_crossings(*case, rows, papers), False)

    def holds(self, case, rows, papers):
        told = shows_crossings(*case, rows, papers)
        self.assertIs(told, expected(*case, rows, papers))
        return told

    def test_takes_what_is_told_on_small_grounds(self):
        for stays in grounds():
            for small in FEW:
                for prices in SOME:
                    for deed in DEEDS:
                        told = crossing_paper(stays, small, prices, deed)
                        self.assertIs(shows_crossings(stays, small, prices, deed, *told), True)

    def test_takes_what_is_told_on_wide_grounds(self):
        for great, stays, small in wide_cases()[1::2]:
            for prices in ((0, 2, 3, 1), (MOST, MOST - 1, MOST - 2, MOST - 3)):
                for deed in DEEDS:
                    told = crossing_paper(stays, small, prices, deed)
                    self.assertIs(shows_crossings(stays, small, prices, deed, *told), True)

    def test_takes_any_way_and_tables_that_are_taken(self):
        rows, papers = crossing_paper(*PAIR)
        flat = lambda rows, cost: rows[:-1] + (tuple(cost for entry in rows[-1]),)
        # The entries of the last row less, where none of them is less than what the way costs.
        other = tuple((way, flat(first, costs[0]), flat(last, costs[1]))
                      for (way, first, last), costs in zip(papers, ((0, 10), (10, 0))))
        self.assertNotEqual(other, papers)
        self.assertIs(shows_crossings(*PAIR, rows, other), True)
        # Over at the leaf of a, and over at the leaf of b.
        case = (TWO, ("a", "b"), (7, 2, 30, 4), "over")
        rows, papers = crossing_paper(*case)
        ways = [((stay,), "over", ((0,), "found"), ((1,), "found")) for stay in (0, 1)]
        self.assertIn(papers[0][0], ways)
        for way in ways:
            self.assertIs(shows_crossings(*case, rows, put(papers, 0, put(papers[0], 0, way))), True)

    def test_not_with_a_row_left_out_or_more_or_out_of_order(self):
        cases = long_cases()
        self.assertGreater(len(cases), 20)
        for case in cases[::4]:
            rows, papers = crossing_paper(*case)
            for place in range(len(rows)):
                self.refuses(case, rows[:place] + rows[place + 1:], papers[:place] + papers[place + 1:])
                self.refuses(case, rows[:place] + rows[place + 1:], papers)
                self.refuses(case, rows, papers[:place] + papers[place + 1:])
                self.refuses(case, rows[:place] + rows[place:place + 1] + rows[place:],
                             papers[:place] + papers[place:place + 1] + papers[place:])
            self.refuses(case, rows[::-1], papers[::-1])
            self.refuses(case, rows, papers[::-1])
            self.refuses(case, rows[::-1], papers)
            self.refuses(case, rows, papers + papers[-1:])
            self.refuses(case, rows + rows[-1:], papers)
            self.refuses(case, (), ())
            self.refuses(case, rows[:1] + rows[2:] + rows[1:2], papers[:1] + papers[2:] + papers[1:2])

    def test_not_with_a_row_more_at_a_price_of_its_own(self):
        # Way and tables are taken, but the number stands at one price alone.
        case = (ground("a"), ("a", "a"), (1, 2, 3, 4), "doubled")
        rows, papers = crossing_paper(*case)
        self.assertEqual(rows, ((1, 0, 1),))
        way, first, last = papers[0]
        middle = table(*case[:2], prices_at(case[2], "doubled", 5, 1))
        self.refuses(case, ((1, 0, 1), (1, 5, 1)), ((way, first, middle), (way, middle, last)))
        self.refuses(case, ((1, 0, 1), (1, 0, 1)), ((way, first, first), (way, first, last)))
        self.refuses(case, ((1, 5, 1),), ((way, middle, last),))
        case = (TWO, ("a", "b"), (0, 2, 3, 4), "over")
        rows, papers = crossing_paper(*case)
        self.assertEqual(rows, ((0, 0, 1),))
        free = table(*case[:2], (0, 2, 0, 4))
        over = ((0,), "over", ((0,), "found"), ((1,), "found"))
        self.refuses(case, ((1, 0, 1), (0, 0, 1)), ((over, free, free),) + papers)

    def test_not_with_a_number_that_only_touches(self):
        # Several numbers are least at the very price at which two rows meet: those between have no row.
        cases = wide_cases()
        for case, place, numbers in (
            (cases[10][1:] + ((4, 7, 9, 5), "over"), 2, [2, 4]), (cases[15][1:] + ((1, 2, 1, 0), "over"), 2, [2, 4, 6]),
            (cases[46][1:] + ((3, 5, 4, 1), "doubled"), 1, [5]), (cases[10][1:] + ((1, 1, 1, 1), "split"), 1, [1, 2, 3]),
        ):
            rows, papers = crossing_paper(*case)
            p, q = rows[place][1:]
            prices = prices_at(case[2], case[3], p, q)
            known = table(*case[:2], prices)
            ways = {}
            for k in range(how_many(*case[:2], prices)):
                way = way_at(*case[:2], prices, k)
                ways[count_of(case[0], way)[DEEDS.index(case[3])]] = way
            between = [n for n in sorted(ways) if rows[place][0] < n < rows[place - 1][0]]
            self.assertEqual(between, numbers)
            for n in between:
                more = rows[:place] + ((n, p, q),) + rows[place:]
                self.refuses(case, more, papers[:place] + ((ways[n], known, known),) + papers[place:])

    def test_not_with_other_numbers(self):
        for case in [PAIR] + long_cases()[::6]:
            rows, papers = crossing_paper(*case)
            for place, (n, p, q) in enumerate(rows):
                for row in (
                    (n + 1, p, q), (n - 1, p, q), (-n, p, q), (n, p + 1, q), (n, p - 1, q), (n, p, q + 1), (n, p, q - 1),
                    (n, 2 * p, 2 * q), (n, -p, -q), (n, p, -q), (n, p, 0), (n, q, p), (n, 3 * p, 3 * q), (n, p, 2 * q),
                    (n, 0, 1), (n, 0, 2), (n, 1, 0), (n, 0, 0), (n, MOST, 1), (n, p * MOST, q * MOST), (0, p, q),
                ):
                    if row != (n, p, q):
                        self.refuses(case, put(rows, place, row), papers)

    def test_not_out_of_least_terms_though_the_tables_are_so_too(self):
        for case in [PAIR] + long_cases()[::6]:
            rows, papers = crossing_paper(*case)
            stays, small, prices, deed = case
            for place, (n, p, q) in enumerate(rows):
                doubled = table(stays, small, prices_at(prices, deed, 2 * p, 2 * q))
                other = put(papers, place, put(papers[place], 1, doubled))
                if place:
                    other = put(other, place - 1, put(other[place - 1], 2, doubled))
                self.refuses(case, put(rows, place, (n, 2 * p, 2 * q)), other)

    def test_not_with_a_way_of_another_number(self):
        for case in long_cases()[::3]:
            rows, papers = crossing_paper(*case)
            for place, paper in enumerate(papers):
                for other in range(len(papers)):
                    thing = put(papers, place, put(paper, 0, papers[other][0]))
                    self.assertIs(shows_crossings(*case, rows, thing), place == other)

    def test_not_with_a_way_of_another_number_that_is_least_there_too(self):
        # The tables take the way, so the number alone bars it.
        case = (ground("a"), ("a", "a"), (0, 0, 0, 0), "doubled")
        rows, papers = crossing_paper(*case)
        self.assertEqual(rows, ((1, 0, 1),))
        self.refuses(case, ((0, 0, 1),), papers)
        self.refuses(case, ((2, 0, 1),), papers)
        self.refuses(case[:3] + ("split",), rows, papers)

    def test_each_way_that_there_is(self):
        seen = {True: 0, False: 0}
        for stays in grounds()[:4]:
            for small in FEW[1:4]:
                ways = all_ways(stays, small)[:60]
                for deed in DEEDS:
                    case = (stays, small, (4, 7, 9, 5), deed)
                    rows, papers = crossing_paper(*case)
                    for place, paper in enumerate(papers):
                        for way in ways:
                            seen[self.holds(case, rows, put(papers, place, put(paper, 0, way)))] += 1
        self.assertGreater(min(seen.values()), 20)

    def test_a_table_of_another_row(self):
        seen = {True: 0, False: 0}
        for case in [PAIR] + long_cases()[::25]:
            rows, papers = crossing_paper(*case)
            for place, paper in enumerate(papers):
                for other in papers:
                    for spot in (1, 2):
                        for far in (1, 2):
                            told = self.holds(case, rows, put(papers, place, put(paper, spot, other[far])))
                            seen[told] += 1
        self.assertGreater(min(seen.values()), 20)

    def test_one_entry_otherwise(self):
        seen = {True: 0, False: 0}
        for case in (PAIR, (TWO, ("a", "b"), (7, 2, 30, 4), "over"), (TWO, ("a", ("b", "b")), (4, 7, 9, 5), "doubled")):
            rows, papers = crossing_paper(*case)
            for place, paper in enumerate(papers):
                for spot in (1, 2):
                    for node, row in enumerate(paper[spot]):
                        for stay, entry in enumerate(row):
                            for other in (0, 1, -1, None) + (() if entry is None else (entry + 1, entry - 1)):
                                thing = put(paper[spot], node, put(row, stay, other))
                                thing = put(papers, place, put(paper, spot, thing))
                                seen[self.holds(case, rows, thing)] += 1
        self.assertGreater(min(seen.values()), 20)

    def test_not_those_of_other_prices_trees_deeds_or_grounds(self):
        rows, papers = crossing_paper(*PAIR)
        self.refuses((TWO, ("a", "b"), (1, 3, 30, 4), "split"), rows, papers)
        self.refuses((TWO, ("a", "b"), (1, 2, 30, 4), "doubled"), rows, papers)
        self.refuses((TWO, ("a", "b"), (1, 2, 30, 4), "over"), rows, papers)
        self.refuses((TWO, ("b", "a"), (1, 2, 30, 4), "split"), rows, papers)
        self.refuses((TWO, "a", (1, 2, 30, 4), "split"), rows, papers)
        self.refuses((ground(("b", "a")), ("a", "b"), (1, 2, 30, 4), "split"), rows, papers)
        # The deed's own price is no matter.
        self.assertIs(shows_crossings(TWO, ("a", "b"), (9, 2, 30, 4), "split", rows, papers), True)

    def test_not_in_another_form(self):
        rows, papers = crossing_paper(*PAIR)
        for thing in (
            list(rows), tuple(list(row) for row in rows), rows[0], (rows,), dict(enumerate(rows)), iter(rows),
            tuple(row[:2] for row in rows), tuple(row + (1,) for row in rows), ((True, 0, 1), (0, 10, 1)),
            ((1, False, 1), (0, 10, 1)), ((1, 0, True), (0, 10, 1)), ((1, 0, 1), (False, 10, 1)),
            ((1, 0, 1), (0, 10, True)), ((1.0, 0, 1), (0, 10, 1)), ((1, 0.0, 1), (0, 10, 1)), ((1, 0, 1.0), (0, 10, 1)),
            ((1, 0, 1), (0, 10.0, 1)), ((1, 0, 1), (0, Fraction(10), 1)), ((1, None, 1), (0, 10, 1)),
            ((1, 0, None), (0, 10, 1)), ((None, 0, 1), (0, 10, 1)), (("1", 0, 1), (0, 10, 1)), ((1, (0,), 1), (0, 10, 1)),
            ((Equal(), 0, 1), (0, 10, 1)), ((1, Equal(), 1), (0, 10, 1)), ((1, 0, Equal()), (0, 10, 1)),
            ((Grim(), 0, 1), (0, 10, 1)), ((1, Grim(), 1), (0, 10, 1)), ((1, 0, 1), Grim()), (Equal(), (0, 10, 1)),
            ((1, 0, 1), ()), ((1, 0, 1), None), nested(rows, 60, lambda part: (part,)),
            tuple(nested(row, 60, lambda part: (part,)) for row in rows), ((1, 0, nested(1, 60, lambda part: (part,))),),
        ):
            self.refuses(PAIR, thing, papers)
        way, first, last = papers[1]
        for paper in (
            list(papers[1]), papers[1][:2], papers[1] + (last,), (way, last, first), (first, last, way), (way, first, None),
            (way, None, last), (None, first, last), (way, [first], last), (way, list(first), last), (way, first, list(last)),
            (list(way), first, last), (Grim(), first, last), (way, Grim(), last), (way, first, Grim()), Grim(), Equal(),
            (Equal(), first, last), (way, Equal(), last), (way, first, Equal()), (), None, way, (way,), papers, "paper",
            (way, tuple(list(row) for row in first), last), (way, first, tuple(row + (0,) for row in last)),
            (way, first[:-1], last), (way, first, last + last[-1:]), nested(papers[1], 60, lambda part: (part,)),
            (way, nested(first, 60, lambda part: (part,)), last), (nested(way, 60, lambda part: (part,)), first, last),
        ):
            self.refuses(PAIR, rows, put(papers, 1, paper))
        for thing in (list(papers), papers[0], (papers,), dict(enumerate(papers)), iter(papers), (rows, papers)):
            self.refuses(PAIR, rows, thing)

    def test_of_anything(self):
        for case in (PAIR, (ground("a"), "a", (1, 2, 3, 4), "over")):
            rows, papers = crossing_paper(*case)
            for thing in odd_things() + [case[0], case[1], least_way(*case[:3]), table(*case[:3])]:
                self.refuses(case, thing, papers)
                self.refuses(case, rows, thing)
                self.refuses(case, thing, thing)
                self.refuses(case, rows, tuple(thing for paper in papers))
                self.refuses(case, tuple(thing for row in rows), papers)

    def test_asked_again_the_same_is_told(self):
        for case in [PAIR] + long_cases()[::9]:
            rows, papers = crossing_paper(*case)
            before = copy.deepcopy((case, rows, papers))
            for turn in range(2):
                self.assertIs(shows_crossings(*case, rows, papers), True)
                self.assertIs(shows_crossings(*case, rows[1:], papers[1:]), False)
            self.assertEqual((case, rows, papers), before)
