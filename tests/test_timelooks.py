import copy
import itertools
import unittest

from cases import some_ways, timed_ways, wide_cases
from listing import listed_links
from things import Equal, Grim, nested, odd_things
from treewithin.timelooks import shows_ring
from treewithin.times import in_time, links

GREAT = (("a", "b"), ("c", "d"))
SMALL = ("a", ("c", "b"))
# From under (a,b) to (c,d), and from under (c,d) to (a,b).
WAY = ((0,), "over", ((0,), "found"), ((5, 3), "over", ((3,), "found"), ((2, 1), "found")))
CASE = (GREAT, SMALL, WAY)


def turns(ring):
    """A ring begun at each of its moments."""
    return [ring[place:] + ring[:place] for place in range(len(ring))]


def rings_of(pairs, most):
    """Rings put together of links, of at most so many moments, each begun at its least one."""
    told = []
    trails = [(moment,) for moment in sorted({pair[0] for pair in pairs})]
    while trails:
        trail = trails.pop()
        for former, latter in pairs:
            if former == trail[-1] and latter == trail[0] and len(trail) > 1:
                told.append(trail)
            elif former == trail[-1] and latter > trail[0] and latter not in trail and len(trail) < most:
                trails.append(trail + (latter,))
    return told


def is_ring(pairs, moments):
    """What is to be told of a tuple of moments."""
    if len(moments) < 2 or len(set(moments)) < len(moments):
        return False
    return all((former, latter) in pairs for former, latter in zip(moments, moments[1:] + moments[:1]))


def barred_ways():
    """(great, small, way, ring) of ways that don't fit into time."""
    told = []
    for great, small, way in timed_ways():
        kind, ring = in_time(great, small, way)
        if kind == "ring":
            told.append((great, small, way, ring))
    return told


class ShowsRingTest(unittest.TestCase):
    def takes(self, case, thing):
        self.assertIs(shows_ring(*case, thing), True, thing)

    def refuses(self, case, thing):
        self.assertIs(shows_ring(*case, thing), False)

    def test_an_example(self):
        # Houses: (a,b) 2, (c,d) 5; the last node goes over first, from a to (c,d).
        for ring in turns((("house", 2), ("thing", 4), ("house", 5), ("thing", 3))):
            self.takes(CASE, ring)
        self.takes(CASE, (("house", 2), ("thing", 4), ("thing", 3)))
        self.refuses(CASE, (("house", 5), ("thing", 4), ("thing", 3)))
        self.refuses(CASE, (("house", 2), ("thing", 4), ("house", 5)))

    def test_takes_each_ring_told_begun_anywhere(self):
        barred = barred_ways()
        self.assertGreater(len(barred), 100)
        for great, small, way, ring in barred:
            for turn in turns(ring):
                self.takes((great, small, way), turn)

    def test_takes_rings_put_together_of_links(self):
        lengths = set()
        for great, small, way, told in barred_ways()[::3]:
            for ring in rings_of(listed_links(great, small, way), 7):
                lengths.add(len(ring))
                for turn in turns(ring):
                    self.takes((great, small, way), turn)
        self.assertGreaterEqual(len(lengths), 4)

    def test_every_tuple_of_few_moments(self):
        seen = {True: 0, False: 0}
        for great, small, way, told in [(GREAT, SMALL, WAY, ())] + barred_ways()[::40]:
            pairs = listed_links(great, small, way)
            moments = sorted({moment for pair in pairs for moment in pair})[:6] + [("house", 99), ("thing", 0)]
            for many in range(5):
                for thing in itertools.product(moments, repeat=many):
                    expected = is_ring(pairs, thing)
                    seen[expected] += 1
                    self.assertIs(shows_ring(great, small, way, thing), expected)
        self.assertGreater(min(seen.values()), 5)

    def test_not_a_ring_that_is_changed(self):
        for great, small, way, ring in barred_ways():
            case = (great, small, way)
            pairs = listed_links(*case)
            self.refuses(case, ring + ring)
            self.refuses(case, ring + ring[:1])
            self.refuses(case, ring[:1] + ring)
            self.refuses(case, ring[:1])
            self.refuses(case, ())
            for place in range(len(ring)):
                left = ring[:place] + ring[place + 1:]
                self.assertIs(shows_ring(*case, left), is_ring(pairs, left))
            self.assertIs(shows_ring(*case, ring[::-1]), is_ring(pairs, ring[::-1]))
            self.assertIs(shows_ring(*case, ring[:2][::-1] + ring[2:]), is_ring(pairs, ring[:2][::-1] + ring[2:]))

    def test_not_turned_about_or_left_out(self):
        ring = (("house", 2), ("thing", 4), ("house", 5), ("thing", 3))
        self.refuses(CASE, ring[::-1])
        self.refuses(CASE, ring[1:])
        self.refuses(CASE, ring[:3])
        self.refuses(CASE, ring[:1] + ring[2:])
        self.refuses(CASE, ring[:2])

    def test_not_with_a_moment_that_is_none_of_the_ways(self):
        ring = in_time(*CASE)[1]
        for place in range(len(ring)):
            kind, number = ring[place]
            for moment in (
                ("house", 0), ("house", 1), ("house", 7), ("house", -1), ("thing", 0), ("thing", 5), ("thing", -1),
                ("house", 10 ** 40), ("", number), ("House", number), ("houses", number), (kind, number + 7),
                (number, kind), (kind,), (kind, number, number), (kind, number, kind), number, kind, (), None,
            ):
                self.refuses(CASE, ring[:place] + (moment,) + ring[place + 1:])
                self.refuses(CASE, ring[:place] + (moment,) + ring[place:])

    def test_not_in_another_form(self):
        ring = in_time(*CASE)[1]
        self.takes(CASE, ring)
        self.refuses(CASE, list(ring))
        self.refuses(CASE, tuple(list(moment) for moment in ring))
        self.refuses(CASE, (list(ring[0]),) + ring[1:])
        self.refuses(CASE, dict(ring))
        self.refuses(CASE, iter(ring))
        self.refuses(CASE, repr(ring))
        self.refuses(CASE, set(ring))

    def test_nothing_else_in_the_place_of_a_number(self):
        # No moment has the number 0 or 1, so a truth is never equal to one; a float is.
        for great, small, way, ring in barred_ways()[::4]:
            for place, (name, number) in enumerate(ring):
                for other in (True, False, float(number), complex(number), str(number), (number,), None):
                    self.refuses((great, small, way), ring[:place] + ((name, other),) + ring[place + 1:])

    def test_none_where_the_way_fits(self):
        for great, small, way in timed_ways()[::5]:
            if in_time(great, small, way)[0] == "dates":
                pairs = links(great, small, way)
                moments = sorted({moment for pair in pairs for moment in pair})
                for many in (2, 3):
                    for thing in itertools.permutations(moments[:6], many):
                        self.refuses((great, small, way), thing)

    def test_not_the_ring_of_another_way(self):
        ring = in_time(*CASE)[1]
        self.takes(CASE, ring)
        self.refuses((GREAT, SMALL, ((6,), "split", ((2, 0), "found"), ((5, 3), "over", ((3,), "found"), ((1,), "found")))),
                     ring)

    def test_on_wide_grounds(self):
        seen = 0
        for great, stays, small in wide_cases()[::2]:
            for way in some_ways(great, small, 8):
                kind, ring = in_time(great, small, way)
                if kind == "ring":
                    seen += 1
                    for turn in turns(ring):
                        self.takes((great, small, way), turn)
                    self.refuses((great, small, way), ring + ring[:1])
                    self.refuses((great, small, way), ring[:1])
        self.assertGreater(seen, 20)

    def test_of_anything(self):
        ring = in_time(*CASE)[1]
        for case in (CASE, ("a", "a", ((0,), "found"))):
            for thing in odd_things():
                self.refuses(case, thing)
                self.refuses(case, (thing,))
                self.refuses(case, (thing, thing))
                self.refuses(case, ring + (thing,))
                self.refuses(case, (thing,) + ring[1:])
                self.refuses(case, (("house", thing),) + ring[1:])
                self.refuses(case, ((thing, 2),) + ring[1:])
                self.refuses(case, tuple(("thing", thing) for moment in ring))
            for deep in (1, 30, 60):
                self.refuses(case, nested(ring, deep, lambda part: (part,)))
                self.refuses(case, nested(ring, deep, lambda part: (part, part[0])))
                self.refuses(case, nested(ring[0], deep, lambda part: ("house", part)))
            self.refuses(case, tuple(Equal() for moment in ring))
            self.refuses(case, tuple(Grim() for moment in ring))

    def test_asked_again_the_same_is_told(self):
        for great, small, way, ring in barred_ways()[::5]:
            before = copy.deepcopy((great, small, way, ring))
            for turn in range(2):
                self.takes((great, small, way), ring)
                self.refuses((great, small, way), ring[:1])
            self.assertEqual((great, small, way, ring), before)
