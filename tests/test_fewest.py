"""Promises 73 and 74: the least number of choices, and the first lists that have so few."""

import unittest

from huelists.choices import choices_many
from huelists.counts import count_at
from huelists.errors import NoNumber, NoWeb, TooMany
from huelists.fewest import fewest, fewest_lists
from huelists.webs import are_lists
from tests import plain
from tests.kinds import ALL_TIES, BAD_WEBS, BIG, ODD, TWO

PATH = (3, ((0, 1), (1, 2)))
TRIANGLE = (3, ((0, 1), (0, 2), (1, 2)))
RING_OF_FOUR = (4, ((0, 1), (0, 3), (1, 2), (2, 3)))
THREE_TO_ONE = (4, ((0, 1), (0, 2), (0, 3)))
ALL_FOUR = (4, plain.pairs(4))
GREAT_WEBS = ((5, ()), (6, ()), (5, ((0, 1),)), (5, plain.pairs(5)), (6, ALL_TIES))
BAD_NUMBERS = ODD + (0, 3, 4, 8, -2, BIG, (), (1,), (2,), (1, 1), [1], [2], {1: 1}, "1", "2", 10 ** 29)


def webs():
    return [web for places in (1, 2, 3, 4) for web in plain.all_webs(places)]


class Fewest(unittest.TestCase):
    def test_all_lists_gone_through(self):
        for places in (1, 2, 3, 4):
            for size in (1, 2):
                all_lists = list(plain.named_lists(places, size))
                for web in plain.all_webs(places):
                    counts = [(len(plain.choices(web, lists)), lists) for lists in all_lists]
                    least = min(many for many, lists in counts)
                    first = min(lists for many, lists in counts if many == least)
                    told = fewest(web, size)
                    self.assertIs(type(told), int)
                    self.assertEqual(told, least, (web, size))
                    self.assertEqual(fewest_lists(web, size), first, (web, size))

    def test_lists_gone_through_are_all(self):
        self.assertEqual([len(list(plain.named_lists(places, 1))) for places in (1, 2, 3, 4)], [1, 2, 5, 15])
        due = [((0, 1), (0, 1)), ((0, 1), (0, 2)), ((0, 1), (1, 2)), ((0, 1), (2, 3))]
        self.assertEqual(list(plain.named_lists(2, 2)), due)

    def test_told_lists_have_so_few(self):
        for web in webs():
            for size in (1, 2):
                told = fewest_lists(web, size)
                self.assertIs(are_lists(told, web), True)
                self.assertEqual([len(hues) for hues in told], [size] * web[0])
                self.assertEqual(choices_many(web, told), fewest(web, size))

    def test_by_hand(self):
        self.assertEqual([fewest((1, ()), size) for size in (1, 2)], [1, 2])
        self.assertEqual([fewest((4, ()), size) for size in (1, 2)], [1, 16])
        self.assertEqual(fewest_lists((1, ()), 1), ((0,),))
        self.assertEqual(fewest_lists((1, ()), 2), ((0, 1),))
        self.assertEqual(fewest_lists((4, ()), 2), ((0, 1),) * 4)
        self.assertEqual([fewest(TWO, size) for size in (1, 2)], [0, 2])
        self.assertEqual(fewest_lists(TWO, 1), ((0,), (0,)))
        self.assertEqual([fewest(TRIANGLE, size) for size in (1, 2)], [0, 0])
        self.assertEqual([fewest(RING_OF_FOUR, size) for size in (1, 2)], [0, 2])
        self.assertEqual(fewest_lists(RING_OF_FOUR, 2), ((0, 1),) * 4)
        self.assertEqual(fewest_lists(PATH, 1), ((0,), (0,), (0,)))

    def test_no_greater_than_the_worth_at_the_size(self):
        for web in webs():
            for size in (1, 2):
                self.assertLessEqual(fewest(web, size), count_at(web, size))
        self.assertLessEqual(fewest(THREE_TO_ONE, 2), 2)


class Refused(unittest.TestCase):
    def test_no_web_ahead_of_all_else(self):
        for web in BAD_WEBS:
            for size in (1, 2, 0, True, None, [web]):
                self.assertRaises(NoWeb, fewest, web, size)
                self.assertRaises(NoWeb, fewest_lists, web, size)

    def test_then_no_number(self):
        for size in BAD_NUMBERS:
            for web in (TWO, ALL_FOUR) + GREAT_WEBS:
                with self.subTest(size):
                    self.assertRaises(NoNumber, fewest, web, size)
                    self.assertRaises(NoNumber, fewest_lists, web, size)

    def test_then_too_many(self):
        for web in GREAT_WEBS:
            for size in (1, 2):
                self.assertRaises(TooMany, fewest, web, size)
                self.assertRaises(TooMany, fewest_lists, web, size)


if __name__ == "__main__":
    unittest.main()
