import bisect
import copy
import functools
import itertools
import re
import unittest

from cases import FREE, PRICES, SMALLS, first_dates, grounds, some_ways, wide_cases
from listing import all_dates, all_ways
from things import GREATS, TREES, Equal, Grim, nested, odd_things
from treewithin.dating import dated, is_dates
from treewithin.errors import NoText
from treewithin.grounds import ground
from treewithin.numbers import how_many, way_at
from treewithin.reading import read_dates, read_tree, read_way
from treewithin.showing import show_dates, show_way
from treewithin.trees import is_tree, text_of
from treewithin.ways import is_way

WHOLE = "\ue000"
NUMBER = "(?:0|[1-9][0-9]{0,3})"
PATH = f"{NUMBER}(?:>{NUMBER})*"
DEEDS = ("found", "split", "doubled", "over")
DATES_FORM = re.compile(rf"{NUMBER}(?:\.{NUMBER})*")
TWO = ground(("a", "b"))
THREE = ground((("a", "b"), "c"))
PAIR = ("a", "b")
SIGNS = "a0z19(),.>=fsdou -+_A\u00e4\u0663\n"


def reduced(text, forms):
    """The text with all that has one of the forms made a whole, again and again."""
    before = None
    while text != before:
        before = text
        for form in forms:
            text = re.sub(form, WHOLE, text)
    return text


def is_tree_text(text):
    """Whether a text has the form of a tree, from its words up."""
    if WHOLE in text or re.search("[a-z]{9}", text):
        return False
    return reduced(re.sub("[a-z]+", WHOLE, text), [rf"\({WHOLE},{WHOLE}\)"]) == WHOLE and WHOLE * 2 not in text


def is_way_text(text):
    """Whether a text has the form of a way, from its leaves up."""
    # A path is marked at its ends first, that none is found within a longer row of figures.
    paths = re.sub(r"[0-9>]+", lambda found: "#" if re.fullmatch(PATH, found[0]) else "!", text)
    if WHOLE in text or "#" in text or "!" in text:
        return False
    return reduced(paths, ["#=found", rf"#=(?:split|doubled|over)\({WHOLE},{WHOLE}\)"]) == WHOLE


def endings(part, depth, firsts):
    """Texts by which one that was begun may be ended, so many brackets being open at the most."""
    for first in firsts:
        for many in range(depth + 1):
            for closings in itertools.product((")", f",{part})"), repeat=many):
                yield first + "".join(closings)


@functools.cache
def may_begin_tree(text):
    """Whether some tree's text begins so."""
    return any(is_tree_text(text + end) for end in endings("a", text.count("(") - text.count(")"), ("", "a", ",a", ",a)")))


@functools.cache
def may_begin_way(text):
    """Whether some way's text begins so."""
    leaf = "0=found"
    pair = f"({leaf},{leaf})"
    firsts = ["", leaf, "=found"] + [deed[place:] + ("" if deed == "found" else pair) for deed in DEEDS for place in range(8)]
    depth = max(0, text.count("(") - text.count(")"))
    return any(is_way_text(text + end) for end in endings(leaf, depth, dict.fromkeys(firsts)))


def may_begin_dates(text):
    """Whether some dates' text begins so."""
    return any(DATES_FORM.fullmatch(text + end) for end in ("", "0"))


def first_wrong(text, may_begin):
    """The number of the first sign that can't stand there, None where all stand."""
    # What begins no text begins none however it goes on, so the place is sought by halves.
    place = bisect.bisect_left(range(len(text)), True, key=lambda sign: not may_begin(text[:sign + 1]))
    return place if place < len(text) else None


def spoilt(text, signs):
    """Texts with a sign left out, put in or another one, and texts ended too early."""
    for place in range(len(text) + 1):
        yield text[:place]
        yield text[:place] + text[place + 1:]
        for sign in signs:
            yield text[:place] + sign + text[place:]
            yield text[:place] + sign + text[place + 1:]


class TextTest(unittest.TestCase):
    def refused_at(self, place, read, *handed):
        with self.assertRaises(NoText) as caught:
            read(*handed)
        self.assertEqual(caught.exception.place, place, handed[-1])
        self.assertIs(type(caught.exception), NoText)
        self.assertIs(type(caught.exception.place), int)

    def refuses_no_texts(self, read, *handed):
        for thing in odd_things() + [Equal(), Grim(), nested("a", 60, lambda part: (part,)), bytearray(b"0")]:
            if not isinstance(thing, str):
                self.refused_at(0, read, *handed, thing)


class ReadTreeTest(TextTest):
    def test_what_is_written_is_read_as_it_was(self):
        for tree in TREES + GREATS:
            self.assertEqual(read_tree(text_of(tree)), tree)
            self.assertEqual(text_of(read_tree(text_of(tree))), text_of(tree))

    def test_examples(self):
        self.assertEqual(read_tree("a"), "a")
        self.assertEqual(read_tree("(a,b)"), ("a", "b"))
        self.assertEqual(read_tree("((a,abcdefgh),(c,a))"), (("a", "abcdefgh"), ("c", "a")))

    def test_first_sign_that_can_not_stand(self):
        for text, place in (
            ("", 0), (" ", 0), ("A", 0), ("0", 0), (",", 0), (")", 0), ("a ", 1), ("a,b", 1), ("a)", 1), ("a(", 1),
            ("abcdefghi", 8), ("abcdefghi,", 8), ("aB", 1), ("a1", 1), ("\u00e4", 0), ("a\n", 1), ("\uff41", 0),
            ("(", 1), ("(a", 2), ("(a,", 3), ("(a,b", 4), ("(a,b)c", 5), ("(a,b),", 5), ("(a,b))", 5), ("(a,b)(", 5),
            ("()", 1), ("(a)", 2), ("(,b)", 1), ("(a,)", 3), ("(a,b,c)", 4), ("(a b)", 2), ("(a, b)", 3), ("( a,b)", 1),
            ("(abcdefghi,b)", 9), ("(a,abcdefghi)", 11), ("((a,b)", 6), ("((a,b),", 7), ("((a,b)c)", 6), ("((a,b)),c)", 6),
            ("(a,(b,c)", 8), ("(a,(b,c),d)", 8), ("(a(b,c))", 2), ("((((", 4), ("((((,", 4), ("(a;b)!", 2), ("[a,b]", 0),
        ):
            self.refused_at(place, read_tree, text)

    def test_spoilt_texts(self):
        seen = {True: 0, False: 0}
        for tree in ("a", "abcdefgh", ("a", "b"), (("a", "b"), "c"), ("c", ("abcdefgh", "a")), (("a", "b"), ("a", "b")),
                     ((("d", "c"), "b"), "a")):
            for text in sorted(set(spoilt(text_of(tree), SIGNS))):
                place = first_wrong(text, may_begin_tree)
                seen[place is None and is_tree_text(text)] += 1
                if place is not None:
                    self.refused_at(place, read_tree, text)
                elif not is_tree_text(text):
                    self.refused_at(len(text), read_tree, text)
                else:
                    self.assertIs(is_tree(read_tree(text)), True)
                    self.assertEqual(text_of(read_tree(text)), text)
        self.assertGreater(min(seen.values()), 50)

    def test_all_short_texts(self):
        for many in range(6):
            for signs in itertools.product("a(),", repeat=many):
                text = "".join(signs)
                place = first_wrong(text, may_begin_tree)
                if place is None and is_tree_text(text):
                    self.assertEqual(text_of(read_tree(text)), text)
                else:
                    self.refused_at(len(text) if place is None else place, read_tree, text)

    def test_whatever_follows(self):
        for text, place in (("(a,)", 3), ("a)", 1), ("abcdefghi", 8), ("(a,b)c", 5), ("(A", 1)):
            for more in ("", "x", ")", "(a,b)", "\x00", "a" * 1000):
                self.refused_at(place, read_tree, text + more)

    def test_each_sign_alone(self):
        for code in range(300):
            sign = chr(code)
            if "a" <= sign <= "z":
                self.assertEqual(read_tree(sign), sign)
                self.assertEqual(read_tree("a" + sign), "a" + sign)
            else:
                self.refused_at(1 if sign == "(" else 0, read_tree, sign)
                self.refused_at(1, read_tree, "a" + sign)

    def test_deep_and_long_texts(self):
        for deep in (50, 300):
            for tree in (nested("a", deep, lambda part: (part, "b")), nested("a", deep, lambda part: ("b", part))):
                text = text_of(tree)
                self.assertEqual(read_tree(text), tree)
                self.refused_at(len(text) - 1, read_tree, text[:-1])
                self.refused_at(len(text), read_tree, text + ")")
        self.refused_at(2000, read_tree, "(" * 2000)

    def test_no_texts(self):
        self.refuses_no_texts(read_tree)
        for thing in (b"a", ["a"], ("a", "b"), ("(a,b)",), 0, True, None):
            self.refused_at(0, read_tree, thing)

    def test_asked_again_the_same_is_told(self):
        for text in ("(a,(b,c))", "abc"):
            before = copy.deepcopy(text)
            self.assertEqual(read_tree(text), read_tree(text))
            self.assertEqual(text, before)
        for turn in range(2):
            self.refused_at(3, read_tree, "(a,")


class DatesTest(TextTest):
    def test_shown(self):
        self.assertEqual(show_dates((0,)), "0")
        self.assertEqual(show_dates((0, 0, 4, 0, 99)), "0.0.4.0.99")

    def test_what_is_written_is_read_as_it_was(self):
        for great in GREATS:
            dates = first_dates(great)
            self.assertEqual(read_dates(great, show_dates(dates)), dates)
        for great in ((("a", "b"), ("c", "d")), ("a", ("b", ("c", "d")))):
            for dates in all_dates(great):
                wide = tuple(33 * date for date in dates)
                self.assertEqual(read_dates(great, show_dates(dates)), dates)
                self.assertEqual(read_dates(great, show_dates(wide)), wide)

    def test_first_sign_that_can_not_stand(self):
        for text, place in (
            ("", 0), (".", 0), ("a", 0), ("-", 0), ("-1", 0), ("+1", 0), (" 0", 0), ("0 ", 1), ("0,0,1", 1), ("0.", 2),
            ("0.0.", 4), ("0..1", 2), ("0.0.01", 5), ("00.0.1", 1), ("0.0.1.", 6), ("0.0.12345", 8), ("0.0.1a", 5),
            ("0.0.1\n", 5), ("0.0.1 ", 5), ("\u0663", 0), ("0.0.\u0663", 4), ("0.0.1\u00b2", 5), ("0.0.1>2", 5), ("1_0", 1),
            ("0.0.0x1", 5), ("12345", 4), ("00", 1), ("09", 1), ("0.0.1.\u00e4", 6), ("0x", 1), ("1e1", 1),
        ):
            self.refused_at(place, read_dates, ("a", "b"), text)

    def test_all_signs_stand_but_it_is_no_dates(self):
        for text in (
            "0", "0.0", "0.0.0", "0.1.2", "1.0.2", "0.0.100", "0.0.9999", "0.0.1.2", "0.0.1.0.2", "0.0.1." + "7." * 900 + "7",
        ):
            self.refused_at(len(text), read_dates, ("a", "b"), text)
        for text in ("0.0.2.0.0.2.3", "0.0.4.0.0.2.3", "0.0.1.0.0.2.2", "0.0.1.0.0.2", "0.0.1.0.0.2.3.0", "0.0.1.0.0.2.1000"):
            self.refused_at(len(text), read_dates, (("a", "b"), ("c", "d")), text)
        self.refused_at(1, read_dates, "a", "1")
        self.refused_at(3, read_dates, "a", "0.0")

    def test_spoilt_texts(self):
        seen = {True: 0, False: 0}
        for great, dates in (("a", (0,)), (("a", "b"), (0, 0, 99)), ((("a", "b"), "c"), (0, 0, 4, 0, 10)),
                             ((("a", "b"), ("c", "d")), (0, 0, 9, 0, 0, 12, 90))):
            for text in sorted(set(spoilt(show_dates(dates), SIGNS))):
                place = first_wrong(text, may_begin_dates)
                if place is None and DATES_FORM.fullmatch(text):
                    told = tuple(int(figures) for figures in text.split("."))
                    seen[is_dates(great, told)] += 1
                    if is_dates(great, told):
                        self.assertEqual(read_dates(great, text), told)
                        self.assertEqual(show_dates(told), text)
                        continue
                self.refused_at(len(text) if place is None else place, read_dates, great, text)
        self.assertGreater(min(seen.values()), 10)

    def test_all_short_texts(self):
        for many in range(8):
            for signs in itertools.product("01.", repeat=many):
                text = "".join(signs)
                place = first_wrong(text, may_begin_dates)
                if text in ("0.0.1", "0.0.10", "0.0.11"):
                    self.assertEqual(show_dates(read_dates(("a", "b"), text)), text)
                else:
                    self.refused_at(len(text) if place is None else place, read_dates, ("a", "b"), text)

    def test_no_texts(self):
        for great in ("a", ("a", "b")):
            self.refuses_no_texts(read_dates, great)
            self.refused_at(0, read_dates, great, (0, 0, 1))
            self.refused_at(0, read_dates, great, b"0.0.1")

    def test_asked_again_the_same_is_told(self):
        great = (("a", "b"), "c")
        dates = (0, 0, 4, 0, 9)
        before = copy.deepcopy((great, dates))
        self.assertEqual(show_dates(dates), show_dates(dates))
        for turn in range(2):
            self.assertEqual(read_dates(great, "0.0.4.0.9"), dates)
            self.refused_at(9, read_dates, great, "0.0.4.0.4")
        self.assertEqual((great, dates), before)


class WayTest(TextTest):
    def test_the_documents_example(self):
        way = ((4,), "split", ((1, 0), "found"), ((2,), "found"))
        self.assertEqual(show_way(way), "4=split(1>0=found,2=found)")

    def test_shown(self):
        found = ((0,), "found")
        self.assertEqual(show_way(found), "0=found")
        self.assertEqual(show_way(((14, 7, 0), "found")), "14>7>0=found")
        self.assertEqual(show_way(((0,), "doubled", found, found)), "0=doubled(0=found,0=found)")
        self.assertEqual(show_way(((0,), "over", found, ((2, 1), "found"))), "0=over(0=found,2>1=found)")
        self.assertEqual(show_way(((0,), "doubled", found, ((0,), "over", ((1,), "found"), found))),
                         "0=doubled(0=found,0=over(1=found,0=found))")
        self.assertEqual(show_way(((0,), "over", ((3,), "split", found, ((1,), "found")), found)),
                         "0=over(3=split(0=found,1=found),0=found)")

    def test_what_is_written_is_read_as_it_was(self):
        for stays in grounds():
            for small in SMALLS:
                for way in all_ways(stays, small)[::7]:
                    text = show_way(way)
                    self.assertTrue(is_way_text(text))
                    self.assertEqual(read_way(stays, small, text), way)

    def test_on_wide_grounds(self):
        for great, stays, small in wide_cases():
            ways = [way_at(stays, small, prices, 0) for prices in PRICES[:5]]
            total = how_many(stays, small, FREE)
            ways += [way_at(stays, small, FREE, total * turn // 9) for turn in range(9)]
            for way in ways:
                text = show_way(way)
                self.assertEqual(read_way(stays, small, text), way)
                self.assertEqual(show_way(read_way(stays, small, text)), text)
                self.refused_at(len(text), read_way, stays, small, text + " ")
                self.refused_at(len(text) - 1, read_way, stays, small, text[:-1])

    def test_first_sign_that_can_not_stand(self):
        for text, place in (
            ("", 0), ("=", 0), ("a", 0), ("(", 0), (" 0=found", 0), ("-0=found", 0), ("0", 1), ("0 =found", 1), ("0=", 2),
            ("0>", 2), ("0>>1", 2), ("0>=found", 2), ("00=found", 1), ("01=found", 1), ("12345=found", 4), ("1.0=found", 1),
            ("0= found", 2), ("0=Found", 2), ("0=lost", 2), ("0=x", 2), ("0=f", 3), ("0=foun", 6), ("0=fount", 6),
            ("0=founds", 7), ("0=found ", 7), ("0=found(", 7), ("0=found(0=found,0=found)", 7), ("0=found,", 7),
            ("0=found)", 7), ("0=found>1", 7), ("2=split", 7), ("2=split,", 7), ("2=splitx", 7), ("2=split)", 7),
            ("2=split()", 8), ("2=split(0=found", 15), ("2=split(0=found)", 15), ("2=split(0=found,", 16),
            ("2=split(0=found,1=found", 23), ("2=split(0=found,1=found,", 23), ("2=split(0=found,1=found)x", 24),
            ("2=split(0=found,1=found))", 24), ("2=split(0=found 1=found)", 15), ("2=split(0=found, 1=found)", 16),
            ("2=doublet", 8), ("2=double(", 8), ("2=doubled", 9), ("2=doubled0", 9), ("2=oven", 5), ("2=ove", 5), ("2=over", 6),
            ("2=over(0=split,1=found)", 14), ("2=over(0=found(,1=found)", 14), ("2=sp(", 4), ("2=splitdoubled(", 7),
            ("2=split(0=found,1=over(0=found,1=found)", 39), ("2=split(0=found,1=over(0=found,1=found),", 39),
            ("\u0662=found", 0), ("1\u0662=found", 1), ("2=\u017fplit(", 2), ("9999>12345=found", 9), ("9999>0123=found", 6),
        ):
            self.refused_at(place, read_way, TWO, PAIR, text)

    def test_all_signs_stand_but_it_is_no_way(self):
        for text in (
            "0=found", "2=found", "9999=found", "2=split(1=found,0=found)", "2=split(2>0=found,1=found)",
            "2=split(0=found,0=found)", "0=split(0=found,1=found)", "2=doubled(0=found,1=found)", "2=over(0=found,1=found)",
            "0=over(0=found,0=found)", "0=over(0=found,2>1=found)", "2>0=over(0=found,1=found)", "3=split(0=found,1=found)",
            "2=split(0=found,1=split(0=found,1=found))", "2=split(0=doubled(0=found,0=found),1=found)",
            "2=doubled(0>2=found,2>1=found)", "2=split(9999>9999=found,1=found)", "0>0>0>0=found",
        ):
            self.refused_at(len(text), read_way, TWO, PAIR, text)

    def test_ways_of_other_trees_and_grounds(self):
        text = "2=split(0=found,1=found)"
        self.assertEqual(read_way(TWO, PAIR, text), ((2,), "split", ((0,), "found"), ((1,), "found")))
        for stays, small in ((TWO, ("b", "a")), (TWO, "a"), (TWO, (PAIR, "a")), (ground("a"), PAIR),
                             (ground(("b", "a")), PAIR), (dated((("a", "b"), "c"), (0, 0, 4, 0, 9)), PAIR)):
            self.refused_at(len(text), read_way, stays, small, text)
        self.assertEqual(read_way(ground(("b", "a")), ("b", "a"), text), read_way(TWO, PAIR, text))

    def test_spoilt_texts(self):
        seen = {"way": 0, "form": 0, "wrong": 0}
        found = ((0,), "found")
        for stays, small, way in (
            (TWO, "a", found), (TWO, PAIR, ((2,), "split", found, ((1,), "found"))),
            (THREE, ("a", "a"), ((4,), "doubled", ((4, 2, 0), "found"), ((4, 2, 0), "found"))),
            (THREE, ("c", ("a", "b")), ((3,), "over", ((3,), "found"), ((2,), "split", found, ((1,), "found")))),
            (THREE, (("a", "c"), "a"), ((0,), "doubled", ((0,), "over", found, ((3,), "found")), found)),
        ):
            for text in sorted(set(spoilt(show_way(way), "09(),>=.fsdo t"))):
                place = first_wrong(text, may_begin_way)
                if place is not None:
                    seen["wrong"] += 1
                    self.refused_at(place, read_way, stays, small, text)
                elif text in known_texts(stays, small):
                    seen["way"] += 1
                    self.assertEqual(show_way(read_way(stays, small, text)), text)
                else:
                    seen["form"] += 1
                    self.refused_at(len(text), read_way, stays, small, text)
        self.assertGreaterEqual(seen["way"], 5)
        self.assertGreater(min(seen["form"], seen["wrong"]), 50)

    def test_whatever_follows(self):
        for text, place in (("2=split(0=found)", 15), ("0=found(", 7), ("00", 1), ("2=split,", 7), ("0=founds", 7)):
            for more in ("", "x", ")", "(0=found,0=found)", ",1=found)", "\x00", "0" * 1000):
                self.refused_at(place, read_way, TWO, PAIR, text + more)

    def test_deep_and_long_texts(self):
        deep = nested("0=found", 60, lambda part: f"0=doubled({part},0=found)")
        self.refused_at(len(deep), read_way, TWO, PAIR, deep)
        self.refused_at(len(deep) - 1, read_way, TWO, PAIR, deep[:-1])
        small = nested("a", 9, lambda part: ("a", part))
        text = nested("0=found", 9, lambda part: f"0=doubled(0=found,{part})")
        self.assertIs(is_way(ground("a"), small, read_way(ground("a"), small, text)), True)
        row = ">".join(["7"] * 900)
        self.refused_at(len(row + "=found"), read_way, TWO, PAIR, row + "=found")
        self.refused_at(len(row), read_way, TWO, PAIR, row)

    def test_no_texts(self):
        self.refuses_no_texts(read_way, TWO, PAIR)
        self.refused_at(0, read_way, TWO, "a", ((0,), "found"))
        self.refused_at(0, read_way, TWO, "a", b"0=found")
        self.refused_at(0, read_way, TWO, "a", ["0=found"])

    def test_asked_again_the_same_is_told(self):
        for way in some_ways((("a", "b"), "c"), (("a", "c"), "b"), 30):
            before = copy.deepcopy(way)
            text = show_way(way)
            self.assertEqual(show_way(way), text)
            for turn in range(2):
                self.assertEqual(read_way(THREE, (("a", "c"), "b"), text), way)
            self.assertEqual(way, before)


KNOWN = {}


def known_texts(stays, small):
    """The texts of all ways of a small tree."""
    if (stays, small) not in KNOWN:
        KNOWN[stays, small] = {show_way(way) for way in all_ways(stays, small)}
    return KNOWN[stays, small]
