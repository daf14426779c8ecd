import copy
import itertools
import unittest

from things import GREATS, odd_things
from treewithin.dating import dated, is_dates
from treewithin.trees import ahead_of, nodes

THREE = (("a", "b"), "c")
FOUR = (("a", "b"), ("c", "d"))


def by_the_words(great, dates):
    """Whether a tuple of whole numbers is dates, by the words of the document."""
    houses = nodes(great)
    if len(dates) != len(houses):
        return False
    splits = [date for house, date in zip(houses, dates) if not isinstance(house, str)]
    if len(set(splits)) < len(splits) or any(date not in range(1, 100) for date in splits):
        return False
    for house, date in zip(houses, dates):
        if isinstance(house, str) and date != 0:
            return False
        if not isinstance(house, str) and any(date <= dates[half] for half in house):
            return False
    return True


def some_dates(great):
    """Dates of the great tree: as low as they go, as high, and by other orders."""
    houses = nodes(great)
    splits = [number for number, house in enumerate(houses) if not isinstance(house, str)]
    told = []
    for order in itertools.islice(itertools.permutations(splits), 5000):
        for first, step in ((1, 1), (100 - len(splits), 1), (3, 11)):
            dates = [0] * len(houses)
            for turn, house in enumerate(order):
                dates[house] = first + step * turn
            if by_the_words(great, dates):
                told.append(tuple(dates))
    return told[:12]


class IsDatesTest(unittest.TestCase):
    def test_dates(self):
        self.assertIs(is_dates("a", (0,)), True)
        self.assertIs(is_dates(("a", "b"), (0, 0, 1)), True)
        self.assertIs(is_dates(("a", "b"), (0, 0, 99)), True)
        self.assertIs(is_dates(THREE, (0, 0, 1, 0, 2)), True)
        self.assertIs(is_dates(THREE, (0, 0, 98, 0, 99)), True)
        for great in GREATS:
            told = some_dates(great)
            self.assertTrue(told)
            for dates in told:
                self.assertIs(is_dates(great, dates), True)

    def test_beyond_the_bounds(self):
        for date in (0, -1, 100, 10 ** 30):
            self.assertIs(is_dates(("a", "b"), (0, 0, date)), False)
        for dates in ((0, 0, 0, 0, 1), (0, 0, 99, 0, 100), (0, 0, -1, 0, 1), (1, 0, 2, 0, 3), (0, 0, 2, 1, 3), (-1, 0, 2, 0, 3)):
            self.assertIs(is_dates(THREE, dates), False)
        self.assertIs(is_dates("a", (1,)), False)
        self.assertIs(is_dates("a", (-1,)), False)

    def test_not_above_those_under(self):
        for dates in ((0, 0, 5, 0, 4), (0, 0, 5, 0, 5), (0, 0, 99, 0, 1)):
            self.assertIs(is_dates(THREE, dates), False)
        self.assertIs(is_dates(FOUR, (0, 0, 3, 0, 0, 8, 7)), False)
        self.assertIs(is_dates(FOUR, (0, 0, 8, 0, 0, 3, 7)), False)

    def test_alike_ones_far_apart(self):
        self.assertIs(is_dates(FOUR, (0, 0, 3, 0, 0, 3, 7)), False)
        self.assertIs(is_dates(FOUR, (0, 0, 3, 0, 0, 4, 7)), True)
        self.assertIs(is_dates(FOUR, (0, 0, 4, 0, 0, 3, 7)), True)

    def test_too_few_or_too_many(self):
        for great in GREATS:
            dates = some_dates(great)[0]
            for other in (dates[:-1], dates[1:], dates + (0,), (0,) + dates, dates + (99,), dates + dates, ()):
                self.assertIs(is_dates(great, other), False)

    def test_one_date_otherwise(self):
        for great in GREATS:
            for dates in some_dates(great):
                for house in range(len(dates)):
                    for date in (dates[house] - 1, dates[house] + 1, 0, 1, 99, 100, -5):
                        other = dates[:house] + (date,) + dates[house + 1:]
                        self.assertIs(is_dates(great, other), by_the_words(great, other))

    def test_one_date_of_another_kind(self):
        for great in GREATS[:8]:
            dates = some_dates(great)[0]
            for house in range(len(dates)):
                for thing in [thing for thing in odd_things() if type(thing) is not int]:
                    self.assertIs(is_dates(great, dates[:house] + (thing,) + dates[house + 1:]), False)

    def test_truths_are_no_numbers(self):
        self.assertIs(is_dates("a", (False,)), False)
        self.assertIs(is_dates(("a", "b"), (0, 0, True)), False)
        self.assertIs(is_dates(("a", "b"), (False, 0, 1)), False)
        self.assertIs(is_dates(("a", "b"), (0, 0, 1.0)), False)

    def test_of_anything(self):
        for great in GREATS:
            for thing in odd_things() + ["a", ("a", "b"), great, list(some_dates(great)[0]), (some_dates(great)[0],)]:
                self.assertIs(is_dates(great, thing), False)

    def test_of_no_great_tree_there_are_no_dates(self):
        for great in odd_things() + [("a", "a")]:
            for dates in ((0,), (0, 0, 1), ()):
                self.assertIs(is_dates(great, dates), False)


class DatedTest(unittest.TestCase):
    def test_of_one_leaf(self):
        self.assertEqual(dated("a", (0,)), (("a", 0, (), ()),))

    def test_of_two(self):
        for date in (1, 50, 99):
            self.assertEqual(dated(("b", "a"), (0, 0, date)), (
                ("b", 0, (), (1,)), ("a", 0, (), (0,)), (2, 1, (0, 1), ()),
            ))

    def test_of_three(self):
        self.assertEqual(dated(THREE, (0, 0, 4, 0, 9)), (
            ("a", 0, (), (1, 2)), ("b", 0, (), (0, 2)), ("c", 0, (), (0, 1)),
            (2, 1, (0, 1), (4,)), ("c", 1, (2,), (3,)),
            (4, 2, (3, 4), ()),
        ))

    def test_the_order_of_dates_tells(self):
        self.assertEqual(dated(FOUR, (0, 0, 7, 0, 0, 2, 9)), (
            ("a", 0, (), (1, 2, 3)), ("b", 0, (), (0, 2, 3)), ("c", 0, (), (0, 1, 3)), ("d", 0, (), (0, 1, 2)),
            ("a", 1, (0,), (5, 6)), ("b", 1, (1,), (4, 6)), (5, 1, (2, 3), (4, 5)),
            (2, 2, (4, 5), (8,)), (5, 2, (6,), (7,)),
            (6, 3, (7, 8), ()),
        ))
        self.assertEqual(dated(FOUR, (0, 0, 2, 0, 0, 7, 9))[4:], (
            (2, 1, (0, 1), (5, 6)), ("c", 1, (2,), (4, 6)), ("d", 1, (3,), (4, 5)),
            (2, 2, (4,), (8,)), (5, 2, (5, 6), (7,)),
            (6, 3, (7, 8), ()),
        ))

    def test_only_the_order_of_dates_tells(self):
        self.assertEqual(dated(FOUR, (0, 0, 1, 0, 0, 2, 3)), dated(FOUR, (0, 0, 50, 0, 0, 98, 99)))

    def test_by_the_words_of_the_document(self):
        for great in GREATS:
            houses = nodes(great)
            ahead = ahead_of(great)
            for dates in some_dates(great):
                begins = sorted({0} | set(dates))
                pairs = [
                    (house, layer) for layer in range(len(begins)) for house in range(len(houses))
                    if dates[house] <= begins[layer]
                    and (ahead[house] is None or begins[layer] < dates[ahead[house]])
                ]
                told = dated(great, dates)
                self.assertEqual(len(told), len(pairs))
                for number, (house, layer) in enumerate(pairs):
                    leaf = isinstance(houses[house], str)
                    if begins[layer] > dates[house]:
                        under = (pairs.index((house, layer - 1)),)
                    elif leaf:
                        under = ()
                    else:
                        under = tuple(pairs.index((half, layer - 1)) for half in houses[house])
                    beside = tuple(k for k, pair in enumerate(pairs) if pair[1] == layer and k != number)
                    self.assertEqual(told[number], (houses[house] if leaf else house, layer, under, beside))

    def test_how_many_stand_in_each_slice(self):
        for great in GREATS:
            many = len([house for house in nodes(great) if isinstance(house, str)])
            for dates in some_dates(great):
                layers = [stay[1] for stay in dated(great, dates)]
                self.assertEqual(layers, [layer for layer in range(many) for house in range(many - layer)])

    def test_kinds_and_asked_again(self):
        for great in GREATS:
            for dates in some_dates(great):
                before = copy.deepcopy(dates)
                told = dated(great, dates)
                self.assertIs(type(told), tuple)
                for stay in told:
                    self.assertEqual([type(part) for part in stay[1:]], [int, tuple, tuple])
                self.assertEqual(dated(great, dates), told)
                self.assertIs(is_dates(great, dates), is_dates(great, dates))
                self.assertEqual(dates, before)
