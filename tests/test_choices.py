"""Promises 21 to 24: the first choice, how many, by number, beginnings, papers of none."""

import random
import unittest
from itertools import combinations, product

from huelists.choices import (
    begun_many, choice_at, choices_many, first_choice, is_none_paper, none_paper, number_of,
)
from huelists.errors import NoChoice, NoLists, NoNumber, NoWeb
from huelists.webs import is_choice
from tests import plain
from tests.kinds import ALL_TIES, BAD_LISTS, BAD_WEBS, BIG, EIGHT, ODD, TWO

PATH = (3, ((0, 1), (1, 2)))
TRIANGLE = (3, ((0, 1), (0, 2), (1, 2)))
FULL = (6, ALL_TIES)
EIGHTS = (tuple(range(8)),) * 6
APART = tuple(tuple(range(8 * place, 8 * place + 8)) for place in range(6))


def asked(many=240, seed=21):
    """Webs of one to six places, with lists."""
    chance = random.Random(seed)
    for web in plain.some_webs(many, seed):
        yield web, plain.some_lists(web, chance, chance.choice((1, 2, 3, 4, 5)))


class First(unittest.TestCase):
    def test_by_hand(self):
        self.assertEqual(first_choice(PATH, ((0, 1), (0,), (0, 1))), (1, 0, 1))
        self.assertEqual(first_choice(PATH, ((0, 1), (0, 1), (0, 1))), (0, 1, 0))
        self.assertEqual(first_choice((1, ()), ((7, 99),)), (7,))
        self.assertIsNone(first_choice((1, ()), ((),)))
        self.assertIsNone(first_choice(TRIANGLE, ((0, 1),) * 3))
        self.assertIsNone(first_choice((2, ()), ((), (1,))))
        self.assertEqual(first_choice(FULL, EIGHTS), (0, 1, 2, 3, 4, 5))
        self.assertEqual(first_choice((6, ()), EIGHTS), (0,) * 6)
        self.assertEqual(first_choice(FULL, APART), (0, 8, 16, 24, 32, 40))

    def test_first_of_all(self):
        for web, lists in asked():
            due = plain.choices(web, lists)
            self.assertEqual(first_choice(web, lists), due[0] if due else None, (web, lists))


class Many(unittest.TestCase):
    def test_by_hand(self):
        self.assertEqual(choices_many(PATH, ((0, 1), (0, 1), (0, 1))), 2)
        self.assertEqual(choices_many((1, ()), ((),)), 0)
        self.assertEqual(choices_many((1, ()), (EIGHT,)), 8)
        self.assertEqual(choices_many((6, ()), EIGHTS), 8 ** 6)
        self.assertEqual(choices_many(FULL, EIGHTS), 8 * 7 * 6 * 5 * 4 * 3)
        self.assertEqual(choices_many(FULL, APART), 8 ** 6)
        self.assertEqual(choices_many(FULL, (tuple(range(5)),) * 6), 0)
        self.assertEqual(choices_many(FULL, EIGHTS[:5] + ((),)), 0)
        self.assertEqual(choices_many((6, ((0, 1), (1, 2), (2, 3), (3, 4), (4, 5))), EIGHTS), 8 * 7 ** 5)

    def test_all_gone_through(self):
        for web, lists in asked():
            told = choices_many(web, lists)
            self.assertIs(type(told), int)
            self.assertEqual(told, len(plain.choices(web, lists)), (web, lists))

    def test_all_webs_of_three_and_small_lists(self):
        some = ((), (0,), (1,), (0, 1), (0, 1, 2))
        for web in plain.all_webs(3):
            for lists in product(some, repeat=3):
                self.assertEqual(choices_many(web, lists), len(plain.choices(web, lists)))


class Numbers(unittest.TestCase):
    def test_all_by_number(self):
        for web, lists in asked(120):
            due = plain.choices(web, lists)
            for number, choice in list(enumerate(due))[:40] + list(enumerate(due))[-3:]:
                self.assertEqual(choice_at(web, lists, number), choice)
                self.assertEqual(number_of(web, lists, choice), number)

    def test_number_just_too_great(self):
        for web, lists in asked(120):
            many = len(plain.choices(web, lists))
            for number in (many, many + 1, -1, BIG, -BIG):
                with self.assertRaises(NoNumber):
                    choice_at(web, lists, number)

    def test_great_ones(self):
        last = 8 ** 6 - 1
        self.assertEqual(choice_at((6, ()), EIGHTS, last), (7,) * 6)
        self.assertEqual(number_of((6, ()), EIGHTS, (7,) * 6), last)
        self.assertEqual(choice_at((6, ()), EIGHTS, 0o123456), (1, 2, 3, 4, 5, 6))
        self.assertEqual(choice_at(FULL, APART, 0o701), (0, 8, 16, 31, 32, 41))
        self.assertEqual(number_of(FULL, EIGHTS, (7, 6, 5, 4, 3, 2)), 20159)
        with self.assertRaises(NoNumber):
            choice_at((6, ()), EIGHTS, last + 1)

    def test_no_number(self):
        for thing in ODD + ((), (0,), (0, 1), [0], {0: 0}):
            with self.subTest(thing), self.assertRaises(NoNumber):
                choice_at(TWO, ((0, 1), (0, 1)), thing)
        for truth in (True, False):
            with self.assertRaises(NoNumber):
                choice_at((1, ()), (EIGHT,), truth)

    def test_no_choice(self):
        lists = ((0, 1), (0, 1))
        for thing in ODD + ((), (0,), (0, 0), (1, 1), (0, 2), (2, 0), (0, 1, 0), [0, 1], {0: 1, 1: 0}, 0, 1):
            with self.subTest(thing), self.assertRaises(NoChoice):
                number_of(TWO, lists, thing)
        for thing in ((False, True), (0, True), (True, 0), (1, False)):
            with self.assertRaises(NoChoice):
                number_of(TWO, lists, thing)
        with self.assertRaises(NoChoice):
            number_of((1, ()), ((),), (0,))


class Beginnings(unittest.TestCase):
    def test_all_gone_through(self):
        chance = random.Random(22)
        for web, lists in asked(120):
            due = plain.choices(web, lists)
            for length in range(web[0] + 1):
                begins = [tuple(chance.randint(0, 5) for place in range(length)) for turn in range(4)]
                begins += [choice[:length] for choice in due[::max(1, len(due) // 4)]]
                for begun in begins:
                    many = len([choice for choice in due if choice[:length] == begun])
                    self.assertEqual(begun_many(web, lists, begun), many, (web, lists, begun))

    def test_none_and_all(self):
        self.assertEqual(begun_many(FULL, EIGHTS, ()), 20160)
        self.assertEqual(begun_many(FULL, EIGHTS, (0, 1, 2, 3, 4, 5)), 1)
        self.assertEqual(begun_many(FULL, EIGHTS, (0, 1, 2, 3, 4, 4)), 0)
        self.assertEqual(begun_many(FULL, EIGHTS, (0, 0)), 0)
        self.assertEqual(begun_many((1, ()), ((),), ()), 0)

    def test_of_whatever_lists(self):
        self.assertEqual(begun_many(PATH, ((0, 1), (2,), (0,)), (99,)), 0)
        self.assertEqual(begun_many(PATH, ((0, 1), (2,), (0,)), (2, 2, 99)), 0)
        self.assertEqual(begun_many(PATH, ((0, 1), (2,), (0,)), (1, 0)), 0)
        self.assertEqual(begun_many(PATH, ((0, 1), (2,), (0,)), (1, 2)), 1)

    def test_no_beginning(self):
        lists = ((0, 1), (0, 1))
        bad = ((0, 1, 0), (0, 0, 0, 0), (100,), (0, 100), (-1,), [], [0], {}, {0: 0}, "", "0", 0, (None,), ((0,),))
        for thing in ODD + bad:
            with self.subTest(thing), self.assertRaises(NoNumber):
                begun_many(TWO, lists, thing)
        for thing in ((True,), (False,), (0, True), (False, 1)):
            with self.assertRaises(NoNumber):
                begun_many(TWO, lists, thing)
        for places in range(1, 7):
            with self.assertRaises(NoNumber):
                begun_many((places, ()), ((0,),) * places, (0,) * (places + 1))
            self.assertEqual(begun_many((places, ()), ((0,),) * places, (0,) * places), 1)


class Papers(unittest.TestCase):
    def test_just_where_there_is_no_choice(self):
        papers = 0
        for web, lists in asked(600):
            paper = none_paper(web, lists)
            if plain.choices(web, lists):
                self.assertIsNone(paper)
            else:
                papers += 1
                self.assertIs(is_none_paper(paper, web, lists), True)
                self.assertTrue(plain.is_paper(paper, web, lists, {}))
        self.assertGreater(papers, 100)

    def test_great_ones(self):
        for lists in ((tuple(range(5)),) * 6, EIGHTS[:5] + ((),), ((0, 1, 2, 3, 4),) * 5 + ((0, 1),)):
            paper = none_paper(FULL, lists)
            self.assertIs(is_none_paper(paper, FULL, lists), True)
            self.assertTrue(plain.is_paper(paper, FULL, lists, {}))
        self.assertIsNone(none_paper(FULL, EIGHTS))

    def test_by_hand(self):
        both = ((0, 1),) * 3
        good = ("by", 1, (("by", 0, (("bare", 2),)), ("by", 2, (("bare", 0),))))
        self.assertIs(is_none_paper(good, TRIANGLE, both), True)
        self.assertIs(is_none_paper(("bare", 0), (1, ()), ((),)), True)
        self.assertIs(is_none_paper(("by", 0, ()), (1, ()), ((),)), True)
        self.assertIs(is_none_paper(("bare", 1), (2, ()), ((0,), ())), True)
        self.assertIs(is_none_paper(("by", 0, (("bare", 1),)), (2, ()), ((0,), ())), True)
        self.assertIs(is_none_paper(("by", 0, (("bare", 1),)), TWO, ((3,), (3,))), True)
        self.assertIs(is_none_paper(("by", 0, (("by", 1, ()),)), TWO, ((3,), (3,))), True)

    def test_wrong_ones(self):
        both = ((0, 1),) * 3
        left, right = ("by", 0, (("bare", 2),)), ("by", 2, (("bare", 0),))
        wrong = (
            ("bare", 0), ("by", 1, ()), ("by", 1, (left,)), ("by", 1, (left, right, right)), ("by", 1, [left, right]),
            ["by", 1, (left, right)], ("by", 1, (left, None)), ("by", 1, (left, ("bare", 1))),
            ("by", 1, (left, ("bare", 0))), ("by", 1, (("by", 1, (left, right)), right)), ("by", 3, (left, right)),
            ("by", -1, (left, right)), ("by", True, (left, right)), ("by", "1", (left, right)), ("by", None, ()),
            ("by", [1], (left, right)), ("by", {}, (left, right)), ("By", 1, (left, right)), (1, 1, (left, right)),
            ("bare", 1, (left, right)), ("by", 1), ("by", 1, (left, right), ()), ("by", 1, {0: left, 1: right}),
            ("by", 1, "ab"), ("by", 1, (left, ("by", 2, ["bare", 0]))), ("by", 1, (left, ("by", 2, ())),),
            ("by", 1, (left, ("by", 2, (("bare", 1),)))), ("by", 1, (left, ("by", 2, (("bare", False),)))),
            ("by", 1, (("by", 0, (("bare", 2), ("bare", 2))), right)),
        )
        self.assertIs(is_none_paper(("by", 1, (left, right)), TRIANGLE, both), True)
        for thing in wrong:
            with self.subTest(thing):
                self.assertIs(is_none_paper(thing, TRIANGLE, both), False)

    def test_hue_of_a_place_that_is_not_tied(self):
        lists = ((0,), (0, 1), (0,))
        self.assertIs(is_none_paper(("by", 0, (("bare", 2),)), PATH, lists), False)
        self.assertIs(is_none_paper(("by", 0, (("bare", 1),)), PATH, lists), False)
        self.assertIs(is_none_paper(("by", 0, (("bare", 2),)), TRIANGLE, lists), True)

    def test_in_order(self):
        web, lists = (3, ((0, 1), (0, 2))), ((0, 1), (0,), (1,))
        self.assertIs(is_none_paper(("by", 0, (("bare", 1), ("bare", 2))), web, lists), True)
        self.assertIs(is_none_paper(("by", 0, (("bare", 2), ("bare", 1))), web, lists), False)

    def test_none_where_there_is_a_choice(self):
        for web, lists in asked(120):
            if plain.choices(web, lists):
                for place in range(web[0]):
                    self.assertIs(is_none_paper(("bare", place), web, lists), False)
                    papers = tuple(("bare", (place + 1) % web[0]) for hue in lists[place])
                    self.assertIs(is_none_paper(("by", place, papers), web, lists), False)

    def test_of_whatever_kind(self):
        for thing in ODD + ((), ("bare",), "bare", ["bare", 0], {"bare": 0}, ("bare", 0, 0), ("bare", (0,))):
            for web, lists in ((TRIANGLE, ((0, 1),) * 3), ((1, ()), ((),)), ((1, ()), ((0,),))):
                with self.subTest(thing):
                    self.assertIs(is_none_paper(thing, web, lists), False)
                    self.assertIs(is_none_paper(("bare", thing), web, lists), False)
                    self.assertIs(is_none_paper(("by", thing, ()), web, lists), False)
                    self.assertIs(is_none_paper((thing, 0, ()), web, lists), False)
                    if thing != "bare":
                        self.assertIs(is_none_paper((thing, 0), web, lists), False)
                    if thing != ():
                        self.assertIs(is_none_paper(("by", 0, thing), web, lists), False)

    def test_truth_for_a_place(self):
        self.assertIs(is_none_paper(("bare", 0), TWO, ((), ())), True)
        self.assertIs(is_none_paper(("bare", False), TWO, ((), ())), False)
        self.assertIs(is_none_paper(("bare", True), TWO, ((), ())), False)


class Together(unittest.TestCase):
    def test_one_places_hues_go_together_to_all(self):
        for web, lists in asked(120):
            for place in range(web[0]):
                ones = [choices_many(web, lists[:place] + ((hue,),) + lists[place + 1:]) for hue in lists[place]]
                self.assertEqual(sum(ones), choices_many(web, lists))

    def test_a_hue_more_has_no_fewer(self):
        for web, lists in asked(120):
            for place in range(web[0]):
                hues = tuple(sorted(set(lists[place]) | {3, 50}))
                more = choices_many(web, lists[:place] + (hues,) + lists[place + 1:])
                self.assertGreaterEqual(more, choices_many(web, lists))

    def test_a_tie_more_has_no_more(self):
        for web, lists in asked(120):
            for tie in combinations(range(web[0]), 2):
                tighter = (web[0], tuple(sorted(set(web[1]) | {tie})))
                self.assertLessEqual(choices_many(tighter, lists), choices_many(web, lists))

    def test_what_is_told_goes_together(self):
        for web, lists in asked(120):
            first = first_choice(web, lists)
            many = choices_many(web, lists)
            self.assertEqual(first is None, many == 0)
            self.assertEqual(first is None, none_paper(web, lists) is not None)
            self.assertEqual(begun_many(web, lists, ()), many)
            if first is not None:
                self.assertIs(is_choice(first, web, lists), True)
                self.assertEqual(choice_at(web, lists, 0), first)
                self.assertEqual(number_of(web, lists, first), 0)


class Refused(unittest.TestCase):
    def asks(self, web, lists, thing):
        return (
            lambda: first_choice(web, lists), lambda: choices_many(web, lists), lambda: choice_at(web, lists, thing),
            lambda: number_of(web, lists, thing), lambda: begun_many(web, lists, thing),
            lambda: is_none_paper(thing, web, lists), lambda: none_paper(web, lists),
        )

    def test_no_web_ahead_of_all_else(self):
        for web in BAD_WEBS:
            for lists in (((0,), (1,)), None, [web]):
                for ask in self.asks(web, lists, lists):
                    self.assertRaises(NoWeb, ask)

    def test_then_no_lists(self):
        for lists in BAD_LISTS:
            for thing in (0, (0, 1), None, lists):
                for ask in self.asks(TWO, lists, thing):
                    self.assertRaises(NoLists, ask)


if __name__ == "__main__":
    unittest.main()
