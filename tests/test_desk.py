import copy
import unittest

from cases import first_dates, woven
from listing import all_ways, kept_ways
from things import GREATS, Equal, Grim, nested, odd_things
from treewithin import desk as desk_module
from treewithin.crossings import crossings
from treewithin.dating import dated
from treewithin.desk import Desk
from treewithin.errors import NoLine, NoText
from treewithin.greats import best_great
from treewithin.grounds import ground
from treewithin.marking import marks, shared
from treewithin.numbers import how_many, place_of, way_at
from treewithin.several import together
from treewithin.showing import show_dates, show_way
from treewithin.tables import least
from treewithin.times import in_time
from treewithin.trees import leaves, text_of

FIRST = (0, 2, 3, 1)
ASKED = (
    "cost", "many", "way 0", "way 1", "way 999999999", "shared", "marks", "cross split", "cross doubled", "cross over",
    "time 0", "time 1", "time 999999999", "together", "best",
)


def answers(desk):
    """What a desk answers to all that can be asked; NoLine where it refuses."""
    told = []
    for line in ASKED:
        try:
            told.append(desk.say(line))
        except NoLine:
            told.append(NoLine)
    return told


def blanks(texts):
    return " ".join(texts) or "-"


def colons(*parts):
    return ":".join(str(part) for part in parts)


def time_answer(great, small, prices, k):
    """What `time K` is to answer."""
    stays = ground(great)
    if k >= how_many(stays, small, prices):
        return "none"
    kind, told = in_time(great, small, way_at(stays, small, prices, k))
    return "dates " + show_dates(told) if kind == "dates" else blanks(["ring"] + [colons(*moment) for moment in told])


class DeskTest(unittest.TestCase):
    def refuses(self, desk, line):
        before = answers(desk)
        with self.assertRaises(NoLine) as caught:
            desk.say(line)
        self.assertIs(type(caught.exception), NoLine)
        self.assertEqual(answers(desk), before, line)

    def says(self, desk, line, answer):
        for turn in range(2):
            told = desk.say(line)
            self.assertIs(type(told), str)
            self.assertEqual(told, answer, line)

    def asked(self, desk, great, stays, prices, smalls, places=(0, 1, 2, 10 ** 9 - 1)):
        """Holds all answers of a desk against the functions that tell them."""
        small = smalls[-1]
        many = how_many(stays, small, prices)
        self.says(desk, "cost", str(least(stays, small, prices)))
        self.says(desk, "many", str(many))
        for k in places:
            way = way_at(stays, small, prices, k) if k < many else None
            self.says(desk, f"way {k}", "none" if way is None else show_way(way))
            self.says(desk, f"time {k}", time_answer(great, small, prices, k))
            if way is not None:
                self.says(desk, "place " + show_way(way), str(k))
        self.says(desk, "shared", blanks(colons(*mark) for mark in shared(stays, small, prices)))
        self.says(desk, "marks", blanks(colons(*mark, often) for mark, often in marks(stays, small, prices)))
        for deed in ("split", "doubled", "over"):
            rows = crossings(stays, small, prices, deed)
            self.says(desk, "cross " + deed, " ".join(f"{n}:{p}/{q}" for n, p, q in rows))
        self.says(desk, "together", " ".join(str(part) for part in together(stays, smalls, prices)))
        if len({word for each in smalls for word in leaves(each)}) <= 5:
            cost, trees = best_great(smalls, prices)
            self.says(desk, "best", " ".join([str(cost)] + [text_of(tree) for tree in trees]))
        else:
            self.refuses(desk, "best")


class MadeTest(DeskTest):
    def test_of_great_trees(self):
        for great in GREATS:
            desk = Desk(text_of(great))
            self.assertEqual(desk.say("small " + text_of(great)), "1")
            self.assertEqual(desk.say("cost"), "0")

    def test_refused_as_read_tree(self):
        for text, place in (("", 0), ("(a,b", 4), ("(a,b)x", 5), ("A", 0), ("abcdefghi", 8), ("(a, b)", 3), ("(a,b) ", 5)):
            with self.assertRaises(NoText) as caught:
                Desk(text)
            self.assertEqual(caught.exception.place, place)
        for thing in odd_things() + [("a", "b"), Equal(), Grim()]:
            if not isinstance(thing, str):
                with self.assertRaises(NoText) as caught:
                    Desk(thing)
                self.assertEqual(caught.exception.place, 0)

    def test_refused_where_it_is_not_great(self):
        for text in ("(a,a)", "((a,b),a)", "((a,b),(c,b))"):
            with self.assertRaises(NoLine):
                Desk(text)

    def test_begins_without_dates_and_small_trees(self):
        desk = Desk("((a,b),c)")
        self.assertEqual(set(answers(desk)), {NoLine})
        desk.say("small (a,c)")
        self.asked(desk, (("a", "b"), "c"), ground((("a", "b"), "c")), FIRST, (("a", "c"),))


class LinesTest(DeskTest):
    def setUp(self):
        self.great = (("a", "b"), "c")
        self.free = ground(self.great)
        self.desk = Desk("((a,b),c)")

    def test_examples(self):
        self.assertEqual(self.desk.say("small (a,c)"), "1")
        self.says(self.desk, "cost", "1")
        self.says(self.desk, "many", "1")
        self.says(self.desk, "way 0", "4=split(2>0=found,3=found)")
        self.says(self.desk, "way 1", "none")
        self.says(self.desk, "place 4=split(2>0=found,3=found)", "0")
        self.says(self.desk, "place 0=over(0=found,3=found)", "none")
        self.says(self.desk, "shared", "0:0:found 1:3:found 2:4:split")
        self.says(self.desk, "marks", "0:0:found:1 1:3:found:1 2:4:split:1")
        self.says(self.desk, "cross split", "1:0/1 0:2/1")
        self.says(self.desk, "time 0", "dates 0.0.1.0.2")
        self.says(self.desk, "time 1", "none")
        self.says(self.desk, "together", "1 1")
        self.says(self.desk, "best", "0 (a,c)")
        self.assertEqual(self.desk.say("prices 9 9 3 9"), "done")
        self.says(self.desk, "cost", "3")
        self.says(self.desk, "many", "2")
        self.says(self.desk, "place 0=over(0=found,3=found)", "0")
        self.says(self.desk, "place 3=over(0=found,3=found)", "1")
        self.says(self.desk, "shared", "0:0:found 1:3:found")
        self.says(self.desk, "marks", "0:0:found:2 1:3:found:2 2:0:over:1 2:3:over:1")
        self.assertEqual(self.desk.say("small ((a,c),b)"), "2")
        self.says(self.desk, "together", "9 8")
        self.says(self.desk, "best", "9 ((a,b),c) ((a,c),b) ((b,c),a)")
        self.assertEqual(self.desk.say("prices 0 2 3 1"), "done")
        self.says(self.desk, "best", "0 ((a,c),b)")

    def test_dates(self):
        self.desk.say("small (c,c)")
        self.assertEqual(self.desk.say("dates 0.0.4.0.9"), "done")
        stays = dated(self.great, (0, 0, 4, 0, 9))
        self.asked(self.desk, self.great, stays, FIRST, (("c", "c"),))
        self.says(self.desk, "way 0", "2=doubled(2=found,2=found)")
        self.says(self.desk, "way 1", "4=doubled(4>2=found,4>2=found)")
        self.assertEqual(self.desk.say("dates 0.0.98.0.99"), "done")
        self.asked(self.desk, self.great, dated(self.great, (0, 0, 98, 0, 99)), FIRST, (("c", "c"),))
        self.assertEqual(self.desk.say("dates -"), "done")
        self.asked(self.desk, self.great, self.free, FIRST, (("c", "c"),))
        self.assertEqual(self.desk.say("dates -"), "done")
        self.says(self.desk, "way 0", "3=doubled(3=found,3=found)")

    def test_dates_and_prices_set_ahead_of_small_trees(self):
        self.assertEqual(self.desk.say("dates 0.0.4.0.9"), "done")
        self.assertEqual(self.desk.say("prices 9 9 3 9"), "done")
        self.assertEqual(self.desk.say("small (a,c)"), "1")
        self.asked(self.desk, self.great, dated(self.great, (0, 0, 4, 0, 9)), (9, 9, 3, 9), (("a", "c"),))

    def test_prices(self):
        self.desk.say("small ((a,c),(b,a))")
        for prices in ((0, 0, 0, 0), (1000, 1000, 1000, 1000), (1, 2, 3, 4), (0, 1000, 10, 999), (5, 1, 1, 0)):
            self.assertEqual(self.desk.say("prices " + " ".join(str(price) for price in prices)), "done")
            self.asked(self.desk, self.great, self.free, prices, ((("a", "c"), ("b", "a")),))

    def test_small_and_drop(self):
        smalls = ("a", ("a", "c"), ("a", "c"), (("b", "a"), "c"))
        for many, small in enumerate(smalls, 1):
            self.assertEqual(self.desk.say("small " + text_of(small)), str(many))
            self.asked(self.desk, self.great, self.free, FIRST, smalls[:many])
        for left in (3, 2, 1):
            self.assertEqual(self.desk.say("drop"), str(left))
            self.asked(self.desk, self.great, self.free, FIRST, smalls[:left])
        self.assertEqual(self.desk.say("drop"), "0")
        self.assertEqual(set(answers(self.desk)), {NoLine})
        self.refuses(self.desk, "drop")
        self.assertEqual(self.desk.say("small b"), "1")

    def test_nothing_shared(self):
        # One leaf is always found in its house, so there is always something shared and marked.
        self.desk.say("small a")
        self.says(self.desk, "shared", "0:0:found")
        self.says(self.desk, "marks", "0:0:found:1")

    def test_place_of_every_way(self):
        small = (("a", "c"), "b")
        self.desk.say("small ((a,c),b)")
        for prices in (FIRST, (1, 1, 1, 1)):
            self.desk.say("prices " + " ".join(str(price) for price in prices))
            for way in all_ways(self.free, small)[::5]:
                place = place_of(self.free, small, prices, way)
                self.says(self.desk, "place " + show_way(way), "none" if place is None else str(place))

    def test_way_and_place_on_a_dated_ground(self):
        small = ("c", ("a", "c"))
        self.desk.say("small (c,(a,c))")
        self.desk.say("dates 0.0.4.0.9")
        stays = dated(self.great, (0, 0, 4, 0, 9))
        for k, way in enumerate(kept_ways(stays, small, FIRST)):
            self.says(self.desk, f"way {k}", show_way(way))
            self.says(self.desk, "place " + show_way(way), str(k))

    def test_time_whatever_dates_there_are(self):
        desk = Desk("((a,b),(c,d))")
        great = (("a", "b"), ("c", "d"))
        small = ("a", (("c", "d"), ("b", ("a", "b"))))
        desk.say("small " + text_of(small))
        desk.say("prices 0 1000 1 1000")
        free = [desk.say(f"time {k}") for k in range(8)]
        self.assertEqual(free, [time_answer(great, small, (0, 1000, 1, 1000), k) for k in range(8)])
        for dates in ("0.0.1.0.0.2.3", "0.0.7.0.0.2.9", "-"):
            desk.say("dates " + dates)
            self.assertEqual([desk.say(f"time {k}") for k in range(8)], free)

    def test_time_tells_dates_rings_and_none(self):
        desk = Desk("((a,b),(c,d))")
        great = (("a", "b"), ("c", "d"))
        small = (("a", "c"), ("d", "b"))
        desk.say("small " + text_of(small))
        desk.say("prices 0 0 0 0")
        many = how_many(ground(great), small, (0, 0, 0, 0))
        seen = {"dates": 0, "ring": 0}
        for k in range(0, many, many // 200):
            told = desk.say(f"time {k}")
            seen[told.split(" ")[0]] += 1
            self.assertEqual(told, time_answer(great, small, (0, 0, 0, 0), k))
        self.assertGreater(min(seen.values()), 3)
        self.says(desk, f"time {many}", "none")
        self.says(desk, f"way {many}", "none")
        self.assertNotEqual(desk.say(f"way {many - 1}"), "none")

    def test_best_whatever_dates_and_great_tree(self):
        desk = Desk("(((a,b),c),((d,e),(f,g)))")
        smalls = (("b", ("c", "a")), ("e", ("a", "b")))
        for small in smalls:
            desk.say("small " + text_of(small))
        cost, trees = best_great(smalls, FIRST)
        for line in ("dates -", "dates 0.0.1.0.2.0.0.3.0.0.4.5.6"):
            desk.say(line)
            self.says(desk, "best", " ".join([str(cost)] + [text_of(tree) for tree in trees]))

    def test_two_desks_by_turns(self):
        other = Desk("((a,b),c)")
        self.desk.say("small (a,c)")
        other.say("small (c,c)")
        self.desk.say("prices 9 9 3 9")
        other.say("dates 0.0.4.0.9")
        for turn in range(3):
            self.asked(self.desk, self.great, self.free, (9, 9, 3, 9), (("a", "c"),))
            self.asked(other, self.great, dated(self.great, (0, 0, 4, 0, 9)), FIRST, (("c", "c"),))
        other.say("drop")
        self.assertEqual(set(answers(other)), {NoLine})
        self.asked(self.desk, self.great, self.free, (9, 9, 3, 9), (("a", "c"),))
        self.assertEqual(answers(Desk("((a,b),c)")), [NoLine] * len(ASKED))


class WideTest(DeskTest):
    def test_great_trees_of_one_to_eight_leaves(self):
        for turn, great in enumerate(GREATS):
            desk = Desk(text_of(great))
            words = leaves(great)
            smalls = tuple(woven(words[place:] + words[:place], 1 + (turn + 4 * place) % 10) for place in range(1 + turn % 4))
            for many, small in enumerate(smalls, 1):
                self.assertEqual(desk.say("small " + text_of(small)), str(many))
            for prices in (FIRST, (7 * turn % 5, 1000 - turn, 1 + turn % 3, turn % 2)):
                desk.say("prices " + " ".join(str(price) for price in prices))
                desk.say("dates -")
                self.asked(desk, great, ground(great), prices, smalls)
                desk.say("dates " + show_dates(first_dates(great)))
                self.asked(desk, great, dated(great, first_dates(great)), prices, smalls)

    def test_small_trees_of_ten_leaves(self):
        great = ((("a", "b"), ("c", "d")), (("e", "f"), ("g", "h")))
        desk = Desk(text_of(great))
        smalls = tuple(woven(leaves(great)[::step], 10) for step in (1, -1, 2, 3))
        for small in smalls:
            desk.say("small " + text_of(small))
        for prices in (FIRST, (0, 0, 0, 0), (1000, 999, 998, 997)):
            desk.say("prices " + " ".join(str(price) for price in prices))
            self.asked(desk, great, ground(great), prices, smalls)
        # Numbers told are of any size, those read are not.
        desk.say("prices 0 0 0 0")
        self.assertGreater(len(desk.say("together").split(" ")[1]), 30)


class RefusedTest(DeskTest):
    def setUp(self):
        self.desk = Desk("((a,b),(c,d))")
        self.desk.say("small (a,c)")
        self.desk.say("small ((a,c),b)")
        self.desk.say("prices 9 9 3 9")
        self.desk.say("dates 0.0.7.0.0.2.9")

    def test_what_is_none_of_these(self):
        for line in (
            "", " ", "  ", "x", "help", "Cost", "COST", "costs", "cos", "cost ", " cost", "cost  ", "cost x", "cost 0", "cost\n",
            "cost\t", "\tcost", "many 1", "many many", "drop 1", "drop ", "shared x", "marks x", "together x", "together 1 2",
            "best x", "best a", "way", "way ", "way 0 ", "way  0", "way 0 0", "way 0 x", "place", "place ", "cross", "cross ",
            "time", "time ", "time 0 0", "small", "small ", "dates", "dates ", "prices", "prices ", "-", "done", "none", "0",
            "goings", "entries", "cost\u00a0", "cost;many", "cost many", "\u0441ost", "\x00", "x" * 2000, " " * 2000, "say cost",
        ):
            self.refuses(self.desk, line)

    def test_dates_that_are_none(self):
        for text in (
            "0", "0.0.1", "0.0.7.0.0.2", "0.0.7.0.0.2.9.0", "0.0.7.0.0.7.9", "0.0.7.0.0.2.7", "0.0.9.0.0.2.7", "0.0.0.0.0.2.9",
            "1.0.7.0.0.2.9", "0.0.7.0.0.2.100", "0.0.7.0.0.02.9", "0.0.7.0.0.2.9.", ".0.0.7.0.0.2.9", "0,0,7,0,0,2,9",
            "0.0.7.0.0.-2.9", "--", "- ", "-0", "0 0 7 0 0 2 9", "0.0.7.0.0.2.9 0", "0.0.7.0.0.2.9 -", "- -", "x", "",
            "0.0.7.0.0.2.00009", "0.0.7.0.0.2.\u0669", "(0,0,7,0,0,2,9)",
        ):
            self.refuses(self.desk, "dates " + text)

    def test_prices_that_are_none(self):
        for text in (
            "", "0", "0 2 3", "0 2 3 1 0", "0 2 3 1001", "1001 0 0 0", "0 1001 0 0", "0 0 1001 0", "0 0 0 9999", "0 0 0 10000",
            "0 0 0 12345678901234567890", "00 2 3 1", "0 02 3 1", "0 2 3 -1", "0 2 3 +1", "0 2 3 1.0", "0 2 3 x", "0 2 3 ",
            "0  2 3 1", "0 2 3  1", " 0 2 3 1", "0 2 3 1 ", "0,2,3,1", "0.2.3.1", "0 2 3 \u0661", "0 2 3 1_0", "- - - -", "0 2 3 -",
        ):
            self.refuses(self.desk, "prices " + text)

    def test_small_trees_that_are_none(self):
        for text in (
            "", "e", "(a,e)", "(a,b", "(a,b))", "(a, b)", "a b", "A", "aa", "((a,b),(c,x))", "-", "(a)", "()", "a,b", "abcdefghi",
            "(a,(a,(a,(a,(a,(a,(a,(a,(a,(a,a))))))))))", text_of(woven("abcd", 11)), text_of(woven("abcd", 30)),
            nested("a", 50, lambda part: f"({part},a)"), nested("a", 300, lambda part: f"(a,{part})"), "(" * 1000, "0=found",
        ):
            self.refuses(self.desk, "small " + text)

    def test_no_more_than_four_small_trees(self):
        self.assertEqual(self.desk.say("small " + text_of(woven("abcd", 10))), "3")
        self.assertEqual(self.desk.say("small a"), "4")
        self.refuses(self.desk, "small a")
        self.refuses(self.desk, "small (a,b)")
        self.assertEqual(self.desk.say("drop"), "3")
        self.assertEqual(self.desk.say("small b"), "4")

    def test_places_that_are_none(self):
        for word in ("way", "time"):
            for text in (
                "-", "-1", "+1", "00", "01", "1.0", "x", "0x1", "1e3", "1234567890", "0000000001", "1000000000", "9" * 100, "1_0",
                "\u0661", "0 ", "0.", "0,1", "none", "K", "0=found",
            ):
                self.refuses(self.desk, f"{word} {text}")
        self.says(self.desk, "way 999999999", "none")
        self.says(self.desk, "time 999999999", "none")

    def test_ways_that_are_none(self):
        for text in (
            "0=found", "2=found", "x", "-", "0", "9999=found", "0=over(0=found,3=found)", "2=over(2>0=found,3>2=found)",
            "0=over(0=found,2=found) ", "((0,),'found')", "0=over(0=over(0=found,2=found),1=found", "0=over(0=over(0=found,2=found))",
            "0=over(0=over(0=found,2=found),1=found))", "0=over(0=over(0=found,2=found), 1=found)", "00=over(0=found,2=found)",
            "0=over(0=over(0=found,2=found),7=found)", "0=Over(0=over(0=found,2=found),1=found)", "0>0=found",
        ):
            self.refuses(self.desk, "place " + text)
        self.says(self.desk, "place 0=over(0=over(0=found,2=found),1=found)", "0")

    def test_deeds_that_are_none(self):
        for text in ("found", "lost", "Split", "splits", "spli", "split ", "split over", "split,over", "-", "0", "doubled.", "x"):
            self.refuses(self.desk, "cross " + text)

    def test_asking_without_a_small_tree(self):
        for dates in ("-", "0.0.7.0.0.2.9"):
            desk = Desk("((a,b),(c,d))")
            desk.say("dates " + dates)
            for line in ASKED + ("drop", "place 0=found"):
                self.refuses(desk, line)

    def test_best_of_more_than_five_words(self):
        desk = Desk("((((a,b),c),(d,e)),f)")
        desk.say("small ((a,b),(c,(d,e)))")
        self.assertTrue(desk.say("best").startswith("0 "))
        desk.say("small (a,f)")
        self.refuses(desk, "best")
        self.assertEqual(desk.say("drop"), "1")
        desk.say("small (a,e)")
        self.assertEqual(len(desk.say("best").split(" ")), 1 + len(best_great(
            ((("a", "b"), ("c", ("d", "e"))), ("a", "e")), FIRST)[1]))
        desk = Desk("((((a,b),c),(d,e)),f)")
        desk.say("small (((a,b),c),((d,e),f))")
        self.refuses(desk, "best")

    def test_lines_of_any_kind(self):
        for thing in odd_things() + [b"cost", ["cost"], ("cost",), ("way", 0), {"cost": 1}, Equal(), Grim(), nested(
                "cost", 60, lambda part: (part,))]:
            self.refuses(self.desk, thing)

    def test_it_still_answers_right(self):
        great = (("a", "b"), ("c", "d"))
        smalls = (("a", "c"), (("a", "c"), "b"))
        for line in ("drop 1", "prices 1 2 3 1001", "dates 0.0.1", "small (a,e)", "way 00", None, "place x"):
            self.refuses(self.desk, line)
            self.asked(self.desk, great, dated(great, (0, 0, 7, 0, 0, 2, 9)), (9, 9, 3, 9), smalls)

    def test_every_line_has_a_refusal_with_a_word_more(self):
        for word in desk_module.LINES:
            self.refuses(self.desk, word + " 0 2 3 1 0")


class KeptTest(DeskTest):
    def test_what_is_handed_in_is_not_changed(self):
        text = "((a,b),c)"
        lines = ["small (a,c)", "prices 9 9 3 9", "dates 0.0.4.0.9", "cost", "way 0", "best"]
        before = copy.deepcopy((text, lines))
        desk = Desk(text)
        for line in lines:
            desk.say(line)
        self.assertEqual((text, lines), before)

    def test_the_same_lines_are_answered_the_same(self):
        lines = ("small (a,c)", "cost", "prices 9 9 3 9", "many", "small ((a,c),b)", "together", "dates 0.0.4.0.9", "marks",
                 "cross over", "time 0", "drop", "best", "shared")
        told = []
        for turn in range(2):
            desk = Desk("((a,b),c)")
            told.append([desk.say(line) for line in lines])
        self.assertEqual(told[0], told[1])
