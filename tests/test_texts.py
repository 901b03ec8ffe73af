"""Promise 12: a web and lists written as a text, and read again."""

import re
import unittest
from itertools import combinations

from huelists.errors import NoLists, NoText, NoWeb
from huelists.texts import read, show
from tests.kinds import ALL_TIES, BAD_LISTS, BAD_WEBS, EIGHT, GOOD_HUES, ODD, TWO

OWN = "3 0-1 1-2 : 0,1 2 -"
OWN_READ = ((3, ((0, 1), (1, 2))), ((0, 1), (2,), ()))
FULL = ((6, ALL_TIES), ((), (0,), (99,), EIGHT, (10, 20, 30), (9, 10)))
FULL_TEXT = (
    "6 0-1 0-2 0-3 0-4 0-5 1-2 1-3 1-4 1-5 2-3 2-4 2-5 3-4 3-5 4-5 : - 0 99 0,1,2,3,4,5,6,99 10,20,30 9,10"
)
HUES_WORD = re.compile(r"-|(0|[1-9][0-9]?)(,(0|[1-9][0-9]?)){0,7}")


def hues_as_due(word):
    if not HUES_WORD.fullmatch(word):
        return False
    hues = [] if word == "-" else [int(part) for part in word.split(",")]
    return all(one < two for one, two in zip(hues, hues[1:]))


def first_wrong(text):
    """The number of the word where the text is refused, None where it is not; told apart from the program's way."""
    words = text.split(" ")
    if not re.fullmatch("[1-6]", words[0]):
        return 0
    places = int(words[0])
    # A tie's word has one figure at each end, so words rise just as their ties do.
    ties = [f"{a}-{b}" for a, b in combinations(range(places), 2)]
    least = ""
    left = None
    for at, word in enumerate(words[1:], 1):
        if left is None and word == ":":
            left = places
        elif left is None:
            if word not in ties or word <= least:
                return at
            least = word
        else:
            if left == 0 or not hues_as_due(word):
                return at
            left -= 1
    return None if left == 0 else len(words)


class Written(unittest.TestCase):
    def test_by_hand(self):
        self.assertEqual(show(*OWN_READ), OWN)
        self.assertEqual(show(*FULL), FULL_TEXT)
        self.assertEqual(show((1, ()), ((),)), "1 : -")
        self.assertEqual(show((2, ()), ((0,), (0,))), "2 : 0 0")

    def test_refused(self):
        for web in BAD_WEBS:
            with self.assertRaises(NoWeb):
                show(web, ((0,), (1,)))
        for lists in BAD_LISTS:
            with self.assertRaises(NoLists):
                show(TWO, lists)


class ReadAgain(unittest.TestCase):
    def test_by_hand(self):
        self.assertEqual(read(OWN), OWN_READ)
        self.assertEqual(read(FULL_TEXT), FULL)
        self.assertEqual(read("1 : -"), ((1, ()), ((),)))

    def test_of_tuples(self):
        (places, ties), lists = read(OWN)
        for thing in (read(OWN), read(OWN)[0], ties, lists, *ties, *lists):
            self.assertIs(type(thing), tuple)
        for thing in (places, ties[0][0], lists[0][0]):
            self.assertIs(type(thing), int)

    def test_all_webs_of_four(self):
        ties = tuple(combinations(range(4), 2))
        for many in range(7):
            for some in combinations(ties, many):
                for start in range(len(GOOD_HUES) - 3):
                    web, lists = (4, some), GOOD_HUES[start:start + 4]
                    self.assertEqual(read(show(web, lists)), (web, lists))

    def test_each_number_of_places_and_each_hue(self):
        for places in range(1, 7):
            for hue in range(100):
                web, lists = (places, ()), ((hue,),) * places
                self.assertEqual(read(show(web, lists)), (web, lists))


class Refused(unittest.TestCase):
    def refused(self, thing, at):
        with self.assertRaises(NoText) as caught:
            read(thing)
        self.assertEqual((thing, caught.exception.at), (thing, at))
        self.assertIs(type(caught.exception.at), int)

    def test_no_text(self):
        for thing in ODD + (3, (), OWN_READ, [OWN], (OWN,), {OWN: OWN}):
            if not isinstance(thing, str):
                self.refused(thing, 0)

    def test_empty_and_blank(self):
        for text in ("", " ", "  ", "   "):
            self.refused(text, 0)

    def test_blank_at_an_end(self):
        self.refused(" " + OWN, 0)
        self.refused(OWN + " ", 7)
        self.refused("1 : - ", 3)
        self.refused("1 : ", 2)
        self.refused("1 ", 1)

    def test_two_blanks_side_by_side(self):
        for at in range(1, 7):
            words = OWN.split(" ")
            self.refused(" ".join(words[:at] + [""] + words[at:]), at)

    def test_nought_ahead(self):
        self.refused("03 0-1 1-2 : 0,1 2 -", 0)
        self.refused("3 00-1 1-2 : 0,1 2 -", 1)
        self.refused("3 0-01 1-2 : 0,1 2 -", 1)
        self.refused("3 0-1 1-02 : 0,1 2 -", 2)
        self.refused("3 0-1 1-2 : 00,1 2 -", 4)
        self.refused("3 0-1 1-2 : 0,01 2 -", 4)
        self.refused("3 0-1 1-2 : 0,1 02 -", 5)
        self.refused("3 0-1 1-2 : 0,1 2 00", 6)

    def test_sign_that_is_no_figure(self):
        for sign in "abxX+._:;/'\"()[]{}!#$&*<>=?@^`|~\\\t\n\r\v\f":
            self.refused(f"3{sign} 0-1 1-2 : 0,1 2 -", 0)
            self.refused(f"{sign}3 0-1 1-2 : 0,1 2 -", 0)
            self.refused(f"3 0-1 1{sign}-2 : 0,1 2 -", 2)
            self.refused(f"3 0-1 1-{sign}2 : 0,1 2 -", 2)
            self.refused(f"3 0-1 1-2 :{sign} 0,1 2 -", 3)
            self.refused(f"3 0-1 1-2 : 0,{sign}1 2 -", 4)
            self.refused(f"3 0-1 1-2 : 0,1 2{sign} -", 5)
            self.refused(f"3 0-1 1-2 : 0,1 2 {sign}-", 6)
        self.refused("-3 0-1 1-2 : 0,1 2 -", 0)
        self.refused("3 0-1 1--2 : 0,1 2 -", 2)
        self.refused("3 0-1 1-2 : 0,1 -2 -", 5)
        self.refused("3 0-1 1-2 : 0,1 2 --", 6)

    def test_number_of_places(self):
        for word in ("0", "7", "10", "100", "-1", "a", "1,", "0-1", ":", "-", "1" * 30, "1" * 31, "1" * 998):
            self.refused(f"{word} : -", 0)
        self.refused("9" * 5000, 0)

    def test_tie_that_is_none(self):
        for word in (
            "0-3", "3-4", "0-0", "1-0", "2-1", "0", "01", "0-", "-1", "-", "0-1-2", "0,1", "0:1", "", "0--1", "0-1-",
            "0-" + "1" * 30, "0-" + "1" * 31, "0-" + "1" * 900,
        ):
            self.refused(f"3 {word} : 0,1 2 -", 1)
            self.refused(f"3 0-1 {word} : 0,1 2 -", 2)

    def test_ties_that_do_not_rise(self):
        self.refused("3 1-2 0-1 : 0,1 2 -", 2)
        self.refused("3 0-2 0-1 : 0,1 2 -", 2)
        self.refused("3 0-1 0-1 : 0,1 2 -", 2)
        self.refused("3 0-1 0-2 1-2 0-2 : 0,1 2 -", 4)
        self.refused(FULL_TEXT.replace(" : ", " 4-5 : "), 16)

    def test_without_a_colon(self):
        self.refused("3 0-1 1-2 0,1 2 -", 3)
        self.refused("3 0-1 1-2 - - -", 3)
        self.refused("3 0-1 1-2", 3)
        self.refused("3 - - -", 1)
        self.refused("3", 1)
        self.refused("6 " + " ".join(f"{a}-{b}" for a, b in ALL_TIES), 16)

    def test_colon_twice(self):
        self.refused("3 0-1 1-2 : : 0,1 2 -", 4)
        self.refused("3 0-1 1-2 : 0,1 2 :", 6)
        self.refused("3 0-1 1-2 : 0,1 2 - :", 7)
        self.refused("3 0-1 : 1-2 : 0,1 2 -", 3)

    def test_hues_that_do_not_rise(self):
        for word in ("1,0", "0,0", "0,2,1", "0,1,1", "99,98", "10,9"):
            self.refused(f"3 : {word} 2 -", 2)
            self.refused(f"3 : 2 {word} -", 3)
            self.refused(f"3 : 2 - {word}", 4)

    def test_hues_that_are_none(self):
        for word in ("100", "0,100", "1" * 30, "1" * 31, "1" * 990, "", ",", "0,", ",0", "0,,1", "0,-", "-,0", "-1"):
            self.refused(f"1 : {word}", 2)
        self.assertEqual(read("1 : 99"), ((1, ()), ((99,),)))

    def test_nine_hues(self):
        self.assertEqual(read("1 : 0,1,2,3,4,5,6,7"), ((1, ()), (tuple(range(8)),)))
        self.refused("1 : 0,1,2,3,4,5,6,7,8", 2)
        self.refused("3 : - 91,92,93,94,95,96,97,98,99 -", 3)

    def test_word_too_many(self):
        for word in ("-", "0", "0,1", ":", "0-1", "a", ""):
            self.refused(f"{OWN} {word}", 7)
            self.refused(f"{OWN} {word} {word}", 7)
            self.refused(f"{FULL_TEXT} {word}", 23)

    def test_word_that_lacks(self):
        for text in (OWN, FULL_TEXT, "1 : -", "6 : - - - - - 1,2,3"):
            words = text.split(" ")
            for many in range(1, len(words)):
                self.refused(" ".join(words[:many]), many)

    def test_first_of_several(self):
        self.refused("7 0-9 : 100", 0)
        self.refused("3 0-9 1-0 : 100", 1)
        self.refused("3 0-1 : 100 9,8 x x x", 3)
        self.refused("3 0-1 : 1 9,8", 4)
        self.refused("3 1-0", 1)

    def test_each_small_change(self):
        for text in (OWN, "1 : -", "2 0-1 : 9,10 1,2,3,4,5,6,7,8", "4 0-3 : 0 - 99 98,99"):
            for at in range(len(text) + 1):
                changed = [text[:at] + text[at + 1:], text[:at]]
                for sign in "0123456789-,: +ax\t\n":
                    changed += [text[:at] + sign + text[at:], text[:at] + sign + text[at + 1:]]
                for other in changed:
                    due = first_wrong(other)
                    if due is None:
                        self.assertEqual(show(*read(other)), other)
                    else:
                        self.refused(other, due)


if __name__ == "__main__":
    unittest.main()
