"""The desk [7.2, 7.3]."""

import inspect
import itertools
import unittest

from hammersale.desk import Desk
from hammersale.errors import (NoBid, NoBuyer, NoHour, NoLine, NoLot, NoParts, NoPrice, NoSale, NoSeller, NoTerms,
                               NoText, NoUndo, There, TooMany)
from tests.things import assert_refused, odd_things, told_at_once

SALE = "sale 0+10 10 20"
WORDS_BEHIND = {
    "sale": 3, "enter": 3, "bid": 4, "strike": 2, "back": 2, "keep": 2, "resale": 2, "join": 2, "pay": 2, "undo": 0,
    "bids": 1, "holder": 1, "chain": 1, "losses": 1, "owes": 1, "gets": 1, "house": 0,
}
# The rungs are taken by 1, 3, 5, 3, 5, 7: the chain is (7, 60), (5, 50), (3, 40), (1, 10), and least is 30.
LOT = ("enter 10 30 0:1,3:2", "bid 0 1 0 20", "bid 0 3 1 40", "bid 0 5 2 50", "bid 0 7 3 90")
ASKED = (
    "bids 0", "holder 0", "chain 0", "losses 0", "bids 1", "holder 1", "chain 1", "losses 1", "house",
    *[f"owes {buyer}" for buyer in range(8)], *[f"gets {seller}" for seller in range(8)])
# Words that write no number.
NO_NUMBERS = (
    "x", "+1", "-0", "00", "01", "-01", "--1", "1-", "-", "+", "1.0", "1e1", "1_0", "0x1", "10000000000",
    "-10000000000", "99999999999", "1\n", "\n1", "1\t", "\t", "1,", "none", "None", "True", "0=1", "'1'", "(1)")
NO_LADDERS = NO_NUMBERS + ("0", "1", "0:1", "0+0", "1+1", "0+1,", "0+1,0+1", "0+1\n", "0+1,5+100001", "0+1+1", "-1+1")
NO_PARTS = NO_NUMBERS + ("0", "1", "0+1", "0:0", "8:1", "0:1,", "0:1,0:1", "1:1,0:1", "0:1\n", "0:101", "0:1:1")


def desk_of(*lines):
    desk = Desk()
    for line in (SALE,) + lines:
        desk.say(line)
    return desk


def asked(desk):
    """All that a desk tells of the lots 0 and 1, of buyers and sellers."""
    told = []
    for line in ASKED:
        try:
            told.append(desk.say(line))
        except NoLot:
            told.append(NoLot)
    return told


class InterfaceTest(unittest.TestCase):
    def test_interface(self):
        self.assertEqual(list(inspect.signature(Desk).parameters), [])
        self.assertIn("say", vars(Desk))
        self.assertEqual(list(inspect.signature(Desk.say).parameters)[1:], ["line"])

    def test_answers_are_texts(self):
        desk = desk_of(*LOT)
        for line in ASKED[:4] + ASKED[8:] + ("enter 1 1 0:1", "pay 0 1", "undo", SALE):
            self.assertIs(type(desk.say(line)), str)


class LinesTest(unittest.TestCase):
    def talk(self, *told):
        desk = Desk()
        for line, answer in told:
            self.assertEqual(desk.say(line), answer, line)

    def test_deeds_and_questions(self):
        self.talk(
            (SALE, "ok"), ("house", "0"), ("owes 0", "0"), ("gets 7", "0"),
            ("enter 10 30 0:1,3:2", "0"), ("bids 0", "none"), ("holder 0", "none"), ("chain 0", "none"),
            ("losses 0", "none"),
            ("bid 0 7 3 90", "ok"), ("holder 0", "none"), ("chain 0", "7=10"), ("losses 0", "none"),
            ("bid 0 5 2 50", "ok"), ("bid 0 3 1 40", "ok"), ("bid 0 1 0 20", "ok"),
            ("bids 0", "1=20,3=40,5=50,7=90"), ("holder 0", "7 60"), ("chain 0", "7=60 5=50 3=40 1=10"),
            ("owes 7", "66"), ("gets 0", "16"), ("gets 3", "32"), ("house", "18"),
            ("back 0 7", "ok"), ("holder 0", "5 50"), ("losses 0", "7=10"), ("owes 7", "10"), ("owes 5", "55"),
            ("back 0 5", "ok"), ("back 0 3", "ok"), ("holder 0", "none"), ("losses 0", "7=10 5=10 3=0"),
            ("enter 10 10 0:1,3:2", "1"), ("bid 1 6 999 1000000", "ok"), ("resale 0 1", "ok"),
            ("losses 0", "7=10 5=10 3=30"), ("losses 1", "none"), ("house", "3"), ("gets 0", "18"), ("gets 3", "40"),
            ("keep 0 3", "ok"), ("losses 0", "7=10 5=10"), ("holder 0", "3 40"),
            ("strike 0 1", "ok"), ("bids 0", "3=40,5=50,7=90"),
            ("join 3 7", "ok"), ("bids 0", "3=90,5=50"), ("losses 0", "3=10 5=30"), ("owes 3", "10"), ("owes 7", "10"),
            ("pay 7 1000000000", "ok"), ("owes 3", "-999999990"), ("undo", "ok"), ("owes 3", "10"),
            ("undo", "ok"), ("bids 0", "3=40,5=50,7=90"), ("undo", "ok"), ("bids 0", "1=20,3=40,5=50,7=90"))

    def test_back_by_the_holder_alone(self):
        desk = desk_of("enter 33 33 0:1", "join 5 2", "bid 0 2 524 165")
        for buyer in (0, 1, 3, 4, 5, 6, 7):
            assert_refused(self, NoBid, desk.say, f"back 0 {buyer}")
            self.assertEqual((desk.say("holder 0"), desk.say("losses 0")), ("2 33", "none"))
        self.assertEqual(desk.say("back 0 2"), "ok")
        self.assertEqual((desk.say("holder 0"), desk.say("losses 0")), ("none", "2=0"))

    def test_enter_tells_the_lots_number(self):
        desk = desk_of()
        self.assertEqual([desk.say("enter 1 1 0:1") for lot in range(6)], list("012345"))
        assert_refused(self, TooMany, desk.say, "enter 1 1 0:1")
        desk.say("undo")
        self.assertEqual(desk.say("enter 1 1 0:1"), "5")

    def test_undo_down_to_none(self):
        desk = desk_of(*LOT)
        for line in LOT:
            self.assertEqual(desk.say("undo"), "ok")
        assert_refused(self, NoUndo, desk.say, "undo")

    def test_numbers_of_more_than_ten_figures_are_told_in_full(self):
        desk = desk_of()
        for turn in range(11):
            desk.say("pay 4 1000000000")
        self.assertEqual(desk.say("owes 4"), "-11000000000")

    def test_the_ladder_and_the_terms(self):
        self.talk(("sale 0+1,12+5 0 50", "ok"), ("enter 10 10 2:7", "0"), ("bid 0 0 0 100", "ok"),
                  ("bid 0 1 1 20", "ok"), ("chain 0", "0=22 1=17"), ("owes 0", "22"), ("gets 2", "11"), ("house", "11"))

    def test_far(self):
        desk = Desk()
        desk.say("sale 0+1 10 20")
        for lot, buyer in itertools.product(range(6), range(8)):
            if buyer == 0:
                desk.say("enter 1 1 0:1")
            desk.say(f"bid {lot} {buyer} {buyer} 1000000")
        self.assertEqual(told_at_once(desk.say, "holder 0"), "1 1000000")
        self.assertEqual(told_at_once(desk.say, "chain 0"), "1=1000000 0=999999")
        self.assertEqual(told_at_once(desk.say, "back 0 1"), "ok")
        self.assertEqual(told_at_once(desk.say, "losses 0", lines=20000), "1=1")
        for line in ("owes 0", "gets 0", "house"):
            told_at_once(desk.say, line, lines=100000)


class NewSaleTest(unittest.TestCase):
    def test_a_new_sale_forgets_all(self):
        desk = desk_of(*LOT, "back 0 7", "join 1 2", "pay 6 5")
        self.assertEqual(desk.say("sale 0+1 0 0"), "ok")
        for line in ASKED[:8]:
            assert_refused(self, NoLot, desk.say, line)
        self.assertEqual([desk.say(line) for line in ASKED[8:]], ["0"] * 17)
        assert_refused(self, NoUndo, desk.say, "undo")
        self.assertEqual(desk.say("join 1 2"), "ok")
        self.assertEqual(desk.say("enter 1 1 0:1"), "0")
        self.assertEqual(desk.say("bids 0"), "none")

    def test_a_sale_refused_is_no_new_one(self):
        desk = desk_of(*LOT)
        before = asked(desk)
        for line, due in (("sale 0+1 51 0", NoTerms), ("sale 0+1 0 51", NoTerms), ("sale 0+1 -1 0", NoTerms),
                          ("sale 0+1 0 9999999999", NoTerms), ("sale 0+0 0 0", NoText), ("sale 0+1 x 0", NoText),
                          ("sale 0+1 51 x", NoText), ("sale 0+1 0", NoLine)):
            assert_refused(self, due, desk.say, line)
            self.assertEqual(asked(desk), before)
            assert_refused(self, due, Desk().say, line)

    def test_refused_at_first_there_is_none_yet(self):
        desk = Desk()
        assert_refused(self, NoTerms, desk.say, "sale 0+1 51 0")
        assert_refused(self, NoSale, desk.say, "house")

    def test_two_desks_have_nothing_in_common(self):
        one, other = desk_of(*LOT), Desk()
        assert_refused(self, NoSale, other.say, "house")
        other = desk_of(*LOT)
        before = asked(other)
        for line in ("back 0 7", "join 1 2", "pay 6 5", "enter 1 1 0:1", "strike 0 3", "undo", "undo", "undo"):
            one.say(line)
            self.assertEqual(asked(other), before)
        one.say("sale 0+1 0 0")
        self.assertEqual(asked(other), before)
        for line in LOT:
            other.say("undo")
        assert_refused(self, NoUndo, other.say, "undo")


class NoLineTest(unittest.TestCase):
    def refused(self, line):
        """On a desk without a sale, and on one with a sale, which stays as it was."""
        assert_refused(self, NoLine, Desk().say, line)
        desk = desk_of(*LOT)
        before = asked(desk)
        assert_refused(self, NoLine, desk.say, line)
        self.assertEqual(asked(desk), before)

    def test_things_of_any_kind(self):
        for thing in odd_things() + [["undo"], ("undo",), {"undo": "undo"}, ["house"], 0, 5]:
            self.refused(thing)

    def test_another_first_word(self):
        for word, many in WORDS_BEHIND.items():
            rest = " 0" * many
            for other in (word.upper(), word.title(), word + "s", word[:-1], "x" + word, word + "\n", "\n" + word,
                          word + "\t", "\t" + word, word + ",", f"'{word}'"):
                if other not in WORDS_BEHIND:
                    self.refused(other + rest)
        for line in ("", "0", "x", "ok", "none", "give_back 0 0", "unite 0 0", "pays 0 0", "twin", "lots", "one_with 0",
                     "money 0", "bids_of 0", "help", "quit", "say house", "0 house", "\n", "\t"):
            self.refused(line)

    def test_another_number_of_words(self):
        for word, many in WORDS_BEHIND.items():
            for other in range(8):
                if other != many:
                    self.refused(word + " 0" * other)
                    self.refused(word + " x" * other)

    def test_blanks_elsewhere(self):
        for word, many in WORDS_BEHIND.items():
            words = [word] + ["0"] * many
            line = " ".join(words)
            for bad in (" " + line, line + " ", "  " + line, line + "  "):
                self.refused(bad)
            for at in range(1, len(words)):
                self.refused(" ".join(words[:at]) + "  " + " ".join(words[at:]))
                # As many words as are due where what is between two blanks counts as one.
                self.refused(" ".join(words[:at] + [""] + words[at + 1:]))
        for line in (" ", "  ", "   "):
            self.refused(line)

    def test_a_line_feed_or_a_tab_parts_no_words(self):
        for line in ("bids\n0", "bids\t0", "pay 0\n5", "pay\n0 5", "house\n", "undo\n", "\nundo", "undo\nundo"):
            self.refused(line)

    def test_ahead_of_all_else(self):
        for line in ("bid 9 9 9999 0 0", "bid x x x", "sale x x", "sale 0+0 99", "enter x x x x", "undo x", "house 9"):
            self.refused(line)


class NoSaleTest(unittest.TestCase):
    def test_each_line_but_sale(self):
        for word, many in WORDS_BEHIND.items():
            if word != "sale":
                for rest in (" 0" * many, " x" * many, " 99" * many, " 01" * many):
                    desk = Desk()
                    assert_refused(self, NoSale, desk.say, word + rest)
                    assert_refused(self, NoSale, desk.say, word + rest)
        assert_refused(self, NoText, Desk().say, "sale x 0 0")


class NoTextTest(unittest.TestCase):
    def test_each_word(self):
        desk = desk_of(*LOT, "enter 10 30 0:1,3:2")
        before = asked(desk)
        for word in NO_NUMBERS:
            assert_refused(self, NoText, desk.say, f"pay {word} {word}")
        good = {"sale": "0+1 0 0", "enter": "1 1 0:1", "bid": "0 0 0 1", "strike": "0 3", "back": "0 7", "keep": "0 7",
                "resale": "0 1", "join": "0 1", "pay": "0 1", "bids": "0", "holder": "0", "chain": "0", "losses": "0",
                "owes": "0", "gets": "0"}
        for word, rest in good.items():
            words = rest.split(" ")
            for at in range(len(words)):
                for bad in self.bad_words(word, at):
                    line = " ".join([word] + words[:at] + [bad] + words[at + 1:])
                    assert_refused(self, NoText, desk.say, line)
        self.assertEqual(asked(desk), before)

    def bad_words(self, word, at):
        if (word, at) == ("sale", 0):
            return NO_LADDERS
        return NO_PARTS if (word, at) == ("enter", 2) else NO_NUMBERS

    def test_ahead_of_what_the_sale_refuses(self):
        desk = desk_of(*LOT)
        for line in ("bid 9 9 9999 x", "bid 9 x 9999 0", "bid x 9 9999 0", "strike 9 x", "strike x 9", "back 9 x",
                     "keep 9 x", "resale 9 x", "join 9 x", "join 0 x", "pay 9 x", "enter 0 0 x", "enter 0 x 0:1",
                     "enter 5 4 0:0", "sale 0+1 51 x", "sale 0+0 51 51"):
            assert_refused(self, NoText, desk.say, line)

    def test_too_many_comes_behind_all_else(self):
        desk = desk_of(*["enter 1 1 0:1"] * 6)
        for line, due in (("enter 1 1 0:0", NoText), ("enter 0 1 0:1", NoLot), ("enter 0 1 x", NoText),
                          ("enter 1 1 0:1", TooMany)):
            assert_refused(self, due, desk.say, line)

    def test_ten_figures_are_a_number(self):
        desk = desk_of(*LOT)
        for number in ("9999999999", "-9999999999", "-1", "1000000000"):
            for line, due in ((f"bid {number} 0 0 1", NoLot), (f"bid 0 {number} 0 1", NoBuyer),
                              (f"bid 0 0 {number} 1", NoHour), (f"bid 0 0 0 {number}", NoPrice),
                              (f"gets {number}", NoSeller), (f"owes {number}", NoBuyer), (f"house {number}", NoLine)):
                assert_refused(self, due, desk.say, line)

    def test_as_the_sale_refuses_it(self):
        desk = desk_of(*LOT, "enter 10 30 0:1,3:3", "join 1 2")
        before = asked(desk)
        for line, due in (
                ("enter 0 5 0:1", NoLot), ("enter 5 4 0:1", NoLot), ("enter 1 1000001 0:1", NoLot),
                ("bid 2 0 0 1", NoLot), ("bid 0 8 0 1", NoBuyer), ("bid 0 0 1000 1", NoHour), ("bid 0 0 0 0", NoPrice),
                ("bid 2 8 1000 0", NoLot), ("bid 0 8 1000 0", NoBuyer), ("bid 0 0 1000 0", NoHour),
                ("strike 2 0", NoLot), ("strike 0 8", NoBuyer), ("strike 0 0", NoBid), ("back 2 0", NoLot),
                ("back 0 8", NoBuyer), ("back 0 5", NoBid), ("keep 2 0", NoLot), ("keep 0 8", NoBuyer),
                ("keep 0 7", NoBid), ("resale 2 1", NoLot), ("resale 0 2", NoLot), ("resale 1 1", NoLot),
                ("resale 1 0", NoLot), ("resale 0 1", NoParts), ("join 8 0", NoBuyer), ("join 0 8", NoBuyer),
                ("join 0 0", NoBuyer), ("join 2 1", There), ("pay 8 1", NoBuyer), ("pay 0 0", NoPrice),
                ("pay 8 0", NoBuyer), ("bids 2", NoLot), ("holder 2", NoLot), ("chain 2", NoLot), ("losses 2", NoLot),
                ("owes 8", NoBuyer), ("gets 8", NoSeller)):
            assert_refused(self, due, desk.say, line)
            self.assertEqual(asked(desk), before)


if __name__ == "__main__":
    unittest.main()
