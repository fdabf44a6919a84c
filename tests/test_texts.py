"""Ladders, parts and bids as they are written [7.1]."""

import re
import unittest

from hammersale import texts
from hammersale.bids import are_bids
from hammersale.errors import NoBids, NoLadder, NoParts, NoText
from hammersale.ladders import is_ladder
from hammersale.money import are_parts
from hammersale.texts import read_bids, read_ladder, read_parts, shown_bids, shown_ladder, shown_parts
from tests.test_bids import BAD_BIDS, EIGHT, GOOD_BIDS
from tests.test_ladders import BAD as BAD_LADDERS
from tests.test_ladders import GOOD as GOOD_LADDERS
from tests.test_money import BAD_PARTS, GOOD_PARTS
from tests.things import assert_parameters, assert_refused, assert_refuses_each, odd_things

PLAIN = [chr(sign) for sign in range(32, 127) if chr(sign) != "%"] + ["\t", "\n"]
NUMBER = r"(0|-?[1-9][0-9]{0,9})"

# For each kind: shown, read, looker, the sign, what is good, what is bad, and the class that is due.
LADDERS = (shown_ladder, read_ladder, is_ladder, "+", GOOD_LADDERS, BAD_LADDERS, NoLadder)
PARTS = (shown_parts, read_parts, are_parts, ":", GOOD_PARTS, BAD_PARTS, NoParts)
BIDS = (shown_bids, read_bids, are_bids, "=", GOOD_BIDS, BAD_BIDS, NoBids)
KINDS = (LADDERS, PARTS, BIDS)


def read_by_pattern(text, sign, looker):
    """What a text writes, None where it writes nothing."""
    if text == "none":
        return () if looker(()) else None
    rows = [re.fullmatch(NUMBER + re.escape(sign) + NUMBER, piece) for piece in text.split(",")]
    if None in rows:
        return None
    pairs = tuple((int(row[1]), int(row[2])) for row in rows)
    return pairs if looker(pairs) else None


def near_texts(text):
    """Texts with one sign more, less or other at each place."""
    for at in range(len(text) + 1):
        for sign in PLAIN:
            yield text[:at] + sign + text[at:]
            yield text[:at] + sign + text[at + 1:]
        yield text[:at] + text[at + 1:]


class ShownTest(unittest.TestCase):
    def test_by_hand(self):
        self.assertEqual(shown_ladder(((0, 1),)), "0+1")
        self.assertEqual(shown_ladder(((0, 1), (10, 3), (1000000, 100000))), "0+1,10+3,1000000+100000")
        self.assertEqual(shown_parts(((7, 100),)), "7:100")
        self.assertEqual(shown_parts(((0, 1), (2, 100), (5, 50), (7, 7))), "0:1,2:100,5:50,7:7")
        self.assertEqual(shown_bids(((5, 1000000),)), "5=1000000")
        self.assertEqual(shown_bids(((3, 7), (0, 12), (5, 13))), "3=7,0=12,5=13")

    def test_none_of_no_bids(self):
        self.assertEqual(shown_bids(()), "none")
        self.assertEqual(read_bids("none"), ())

    def test_refusals(self):
        for shown, read, looker, sign, good, bad, due in KINDS:
            assert_refuses_each(self, shown, (good[1],), (due,))
            for thing in bad:
                assert_refused(self, due, shown, thing)

    def test_a_text_is_none_of_them(self):
        for shown, read, looker, sign, good, bad, due in KINDS:
            assert_refused(self, due, shown, shown(good[1]))

    def test_interface(self):
        assert_parameters(self, texts, {
            "shown_ladder": "ladder", "shown_parts": "parts", "shown_bids": "bids",
            "read_ladder": "text", "read_parts": "text", "read_bids": "text"})


class ReadTest(unittest.TestCase):
    def test_by_hand(self):
        self.assertEqual(read_ladder("0+1,10+3,1000000+100000"), ((0, 1), (10, 3), (1000000, 100000)))
        self.assertEqual(read_parts("0:1,2:100,5:50,7:7"), ((0, 1), (2, 100), (5, 50), (7, 7)))
        self.assertEqual(read_bids("3=7,0=12,5=1000000"), ((3, 7), (0, 12), (5, 1000000)))

    def test_each_reads_back_what_the_other_wrote(self):
        for shown, read, looker, sign, good, bad, due in KINDS:
            for thing in good:
                text = shown(thing)
                self.assertIs(type(text), str)
                self.assertEqual(read(text), thing)
                self.assertIs(looker(read(text)), True)
                self.assertEqual(shown(read(text)), text)

    def test_a_sign_more_less_or_other(self):
        for (shown, read, looker, sign, good, bad, due), text in (
                (LADDERS, "0+1"), (LADDERS, "0+10,12+3"), (LADDERS, "0+9,3+1,20+4,21+5"),
                (PARTS, "3:10"), (PARTS, "0:1,4:99"), (PARTS, "1:2,3:4,5:6,7:8"),
                (BIDS, "3=10"), (BIDS, "7=1,0=999999"), (BIDS, "none")):
            seen = set()
            for near in near_texts(text):
                found = read_by_pattern(near, sign, looker)
                seen.add(found is None)
                if found is None:
                    assert_refused(self, NoText, read, near)
                else:
                    self.assertEqual(read(near), found, near)
            self.assertEqual(seen, {True, False}, text)

    def test_odd_things(self):
        for shown, read, looker, sign, good, bad, due in KINDS:
            for thing in odd_things() + good + [b"0+1", ("0+1",), ["0+1"], {"0+1": "0+1"}]:
                if type(thing) is not str:
                    assert_refused(self, NoText, read, thing)
            for text in ("", " ", "\n", ",", sign, "0", "1", "None", "NONE", "()", "none,none", "~" * 1000, "0" * 1000):
                assert_refused(self, NoText, read, text)

    def test_the_text_of_another_kind(self):
        for kind in KINDS:
            for other in KINDS:
                if kind != other:
                    for thing in other[4]:
                        text = other[0](thing)
                        if not (text == "none" and kind == BIDS):
                            assert_refused(self, NoText, kind[1], text)
        assert_refused(self, NoText, read_ladder, "none")
        assert_refused(self, NoText, read_parts, "none")

    def test_no_such_texts(self):
        for read, sign in ((read_ladder, "+"), (read_parts, ":"), (read_bids, "=")):
            self.assertEqual(read(f"0{sign}1,5{sign}2"), ((0, 1), (5, 2)))
            for text in ("00*1", "0*01", "0*1,05*2", "0*1,5*02", "+0*1", "-0*1", "0*+1", "0*-1", "0*-0", "0*1,+5*2",
                         "0*1,-5*2", "0*1,5*+2", "0*1,5*-2", " 0*1", "0 *1", "0* 1", "0*1 ", "0*1 ,5*2", "0*1, 5*2",
                         "0*1,5*2\n", "0*1\n", "\n0*1", "0*1\t", "0*00000000001", "00000000000*1", "0*10000000001",
                         "0*1,10000000005*2", "0*1,", ",0*1", "0*1,,5*2", "0*1;5*2", "0**1", "0*1*2", "*1", "0*", "*",
                         "0*1,5", "0*1,5*", "0*1,*2", "0x0*1", "0*1_0", "0*1.0", "0*1e1", "0*none", "0*1,none",
                         "(0*1)", "0*1,0*1", "0*1,0*2", "--1*1", "0*--1", "0*9999999999", "9999999999*1",
                         "-9999999999*1", "0*-9999999999", "0*1" + ",5*2" * 200):
                assert_refused(self, NoText, read, text.replace("*", sign))

    def test_numbers_at_the_borders_and_one_beyond(self):
        told = [
            (read_ladder, ["0+1", "0+100000", "0+1,1000000+1", "0+1,1+1", "0+1,1+1,2+1,3+1"],
             ["0+0", "0+100001", "0+1,1000001+1", "1+1", "-1+1", "0+1,0+1", "0+1,1+1,2+1,3+1,4+1", "0+1,-1+1"]),
            (read_parts, ["0:1", "0:100", "7:1", "7:100", "0:1,1:1,2:1,3:1", "6:1,7:1"],
             ["0:0", "0:101", "8:1", "-1:1", "0:1,1:1,2:1,3:1,4:1", "7:1,8:1", "0:-1"]),
            (read_bids, ["0=1", "0=1000000", "7=1", "7=1000000", shown_bids(EIGHT)],
             ["0=0", "0=1000001", "8=1", "-1=1", shown_bids(EIGHT) + ",8=1", shown_bids(EIGHT) + ",0=1", "0=-1"]),
        ]
        for read, good, bad in told:
            for text in good:
                read(text)
            for text in bad:
                assert_refused(self, NoText, read, text)

    def test_pairs_out_of_order_or_twice(self):
        for text in ("5+1,0+1", "0+1,6+1,5+1", "0+1,5+1,5+1", "0+1,5+1,5+2"):
            assert_refused(self, NoText, read_ladder, text)
        for text in ("1:5,0:5", "0:5,0:5", "0:5,0:6", "0:5,2:5,1:5", "0:5,2:5,2:6"):
            assert_refused(self, NoText, read_parts, text)
        for text in ("0=5,0=5", "0=5,0=6", "0=5,1=5,0=7"):
            assert_refused(self, NoText, read_bids, text)
        self.assertEqual(read_bids("1=5,0=5"), ((1, 5), (0, 5)))


if __name__ == "__main__":
    unittest.main()
