"""Promises 31 to 34: whether there always is a choice, bars, least length, hues."""

import random
import unittest
from itertools import combinations, permutations, product

from huelists.always import always, bar_for, hues_many, is_bar, least_length
from huelists.choices import first_choice, none_paper
from huelists.errors import NoSizes, NoWeb, TooMany
from huelists.webs import are_lists, sizes_of
from tests import plain
from tests.kinds import ALL_TIES, BAD_LISTS, BAD_SIZES, BAD_WEBS, EIGHT, ODD, TWO

PATH = (3, ((0, 1), (1, 2)))
TRIANGLE = (3, ((0, 1), (0, 2), (1, 2)))
RING_OF_FOUR = (4, ((0, 1), (0, 3), (1, 2), (2, 3)))
RING_OF_FIVE = (5, ((0, 1), (0, 4), (1, 2), (2, 3), (3, 4)))
TWO_TO_THREE = (5, ((0, 2), (0, 3), (0, 4), (1, 2), (1, 3), (1, 4)))
FULL_OF_FIVE = (5, plain.pairs(5))
GREAT_WEBS = ((6, ()), (6, ((0, 1),)), (6, ALL_TIES))


def choice_for_all(web, sizes):
    """Whether all lists of these sizes, gone through one by one, have a choice."""
    return all(plain.has_choice(web, lists) for lists in plain.all_lists(sizes))


def of_ties(web, least=0):
    """All sizes of the web of which none is greater than the place's ties."""
    return product(*[range(least, max(least, len(plain.tied(web, place))) + 1) for place in range(web[0])])


class Always(unittest.TestCase):
    def test_all_lists_of_one_place_to_three(self):
        for places in (1, 2, 3):
            for web in plain.all_webs(places):
                for sizes in product(range(4), repeat=places):
                    self.assertIs(always(web, sizes), choice_for_all(web, sizes), (web, sizes))

    def test_all_lists_of_four_places(self):
        for web in plain.unlike_webs(4):
            for sizes in product(range(3), repeat=4):
                self.assertIs(always(web, sizes), choice_for_all(web, sizes), (web, sizes))
        for sizes in ((3, 3, 2, 2), (2, 3, 2, 3), (3, 2, 2, 2), (1, 3, 2, 3)):
            for web in (RING_OF_FOUR, (4, plain.pairs(4)), (4, plain.pairs(4)[1:])):
                self.assertIs(always(web, sizes), choice_for_all(web, sizes), (web, sizes))

    def test_all_lists_of_five_places(self):
        for web in (RING_OF_FIVE, TWO_TO_THREE):
            for sizes in ((2, 2, 2, 2, 2), (2, 1, 2, 2, 2), (3, 2, 2, 2, 1)):
                self.assertIs(always(web, sizes), choice_for_all(web, sizes), (web, sizes))

    def test_by_hand(self):
        self.assertIs(always((1, ()), (0,)), False)
        self.assertIs(always((1, ()), (1,)), True)
        self.assertIs(always((5, ()), (1,) * 5), True)
        self.assertIs(always((5, ()), (8, 8, 0, 8, 8)), False)
        self.assertIs(always(TWO, (1, 1)), False)
        self.assertIs(always(TWO, (1, 2)), True)
        self.assertIs(always(PATH, (1, 2, 1)), False)
        self.assertIs(always(RING_OF_FOUR, (2, 2, 2, 2)), True)
        self.assertIs(always(TRIANGLE, (2, 2, 2)), False)
        self.assertIs(always(RING_OF_FIVE, (2,) * 5), False)
        self.assertIs(always(RING_OF_FIVE, (2, 2, 3, 2, 2)), True)
        self.assertIs(always(TWO_TO_THREE, (2,) * 5), True)
        self.assertIs(always(FULL_OF_FIVE, (4,) * 5), False)
        self.assertIs(always(FULL_OF_FIVE, (5,) * 5), True)
        self.assertIs(always(FULL_OF_FIVE, (8,) * 5), True)
        self.assertIs(always(FULL_OF_FIVE, (5, 1, 3, 2, 4)), True)
        self.assertIs(always(FULL_OF_FIVE, (0, 8, 8, 8, 8)), False)

    def test_bar_by_lists_that_are_unlike(self):
        self.assertIs(always(TRIANGLE, (2, 1, 1)), False)
        fan = (5, ((0, 1), (0, 2), (0, 3), (0, 4), (1, 2), (3, 4)))
        self.assertIs(is_bar(((0, 1, 2, 3), (0, 1), (0, 1), (2, 3), (2, 3)), fan, (4, 2, 2, 2, 2)), True)
        self.assertIs(always(fan, (4, 2, 2, 2, 2)), False)
        self.assertIs(always(fan, (5, 2, 2, 2, 2)), True)

    def test_whatever_the_names_of_places(self):
        for web in (TWO_TO_THREE, (5, ((0, 1), (0, 2), (0, 3), (1, 2), (3, 4)))):
            for sizes in ((2, 2, 2, 2, 2), (3, 2, 2, 1, 2), (1, 2, 3, 2, 2)):
                due = always(web, sizes)
                for names in permutations(range(5)):
                    ties = tuple(sorted(tuple(sorted((names[a], names[b]))) for a, b in web[1]))
                    moved = [0] * 5
                    for place, size in enumerate(sizes):
                        moved[names[place]] = size
                    self.assertIs(always((5, ties), tuple(moved)), due)

    def test_lists_by_chance_have_one_where_told(self):
        chance = random.Random(31)
        for web in plain.unlike_webs(5):
            for sizes in list(of_ties(web, 1))[::5]:
                if always(web, sizes):
                    for hues in (4, 5, 7):
                        lists = tuple(tuple(sorted(chance.sample(range(hues), size))) for size in sizes)
                        self.assertIsNotNone(first_choice(web, lists), (web, lists))


class Bars(unittest.TestCase):
    def test_told_just_where_there_is_not_always_a_choice(self):
        bars = 0
        for web in [web for places in (1, 2, 3, 4, 5) for web in plain.unlike_webs(places)]:
            for sizes in list(of_ties(web))[::3]:
                bar = bar_for(web, sizes)
                self.assertEqual(bar is None, always(web, sizes))
                if bar is not None:
                    bars += 1
                    self.assertIs(is_bar(bar, web, sizes), True)
                    self.assertIs(are_lists(bar, web), True)
                    self.assertEqual(sizes_of(web, bar), sizes)
                    self.assertFalse(plain.has_choice(web, bar), (web, bar))
        self.assertGreater(bars, 500)

    def test_sizes_greater_than_ties(self):
        for web in plain.unlike_webs(4):
            for sizes in ((8, 0, 8, 8), (8, 1, 1, 8), (0, 8, 0, 8), (8, 2, 2, 2), (8, 8, 8, 8), (1, 8, 8, 1)):
                bar = bar_for(web, sizes)
                self.assertEqual(bar is None, always(web, sizes))
                if bar is not None:
                    self.assertIs(is_bar(bar, web, sizes), True)
                    self.assertFalse(plain.has_choice(web, bar))

    def test_each_lists(self):
        hues = ((), (0,), (1,), (0, 1), (1, 2), (0, 1, 2))
        for web in plain.all_webs(3):
            for lists in product(hues, repeat=3):
                sizes = tuple(map(len, lists))
                self.assertIs(is_bar(lists, web, sizes), not plain.has_choice(web, lists))
                self.assertIs(is_bar(lists, web, sizes[:2] + (sizes[2] + 1,)), False)

    def test_far_hues(self):
        self.assertIs(is_bar(((98, 99),) * 3, TRIANGLE, (2, 2, 2)), True)
        self.assertIs(is_bar((EIGHT, EIGHT, ()), TRIANGLE, (8, 8, 0)), True)
        self.assertIs(is_bar(((98, 100),) * 3, TRIANGLE, (2, 2, 2)), False)
        self.assertIs(is_bar(((0, 1), (0, 1), (0, 2)), TRIANGLE, (2, 2, 2)), False)

    def test_of_whatever_kind(self):
        for thing in BAD_LISTS:
            with self.subTest(thing):
                self.assertIs(is_bar(thing, TWO, (1, 1)), False)
                self.assertIs(is_bar((thing,), (1, ()), (0,)), thing == ())
        self.assertIs(is_bar(((0,), (0,)), TWO, (1, 1)), True)
        self.assertIs(is_bar([(0,), (0,)], TWO, (1, 1)), False)
        self.assertIs(is_bar(((False,), (False,)), TWO, (1, 1)), False)
        self.assertIs(is_bar(((True,), (1,)), TWO, (1, 1)), False)
        self.assertIs(is_bar((), (1, ()), (0,)), False)
        self.assertIs(is_bar(((),), (1, ()), (0,)), True)


class Lengths(unittest.TestCase):
    def test_by_hand(self):
        self.assertEqual(least_length((1, ())), 1)
        self.assertEqual(least_length((5, ())), 1)
        self.assertEqual(least_length(PATH), 2)
        self.assertEqual(least_length(RING_OF_FOUR), 2)
        self.assertEqual(least_length(RING_OF_FIVE), 3)
        self.assertEqual(least_length(TWO_TO_THREE), 2)
        self.assertEqual([least_length((places, plain.pairs(places))) for places in range(1, 6)], [1, 2, 3, 4, 5])

    def test_least_of_all(self):
        for web in plain.unlike_webs(4) + plain.unlike_webs(5):
            told = least_length(web)
            self.assertIs(type(told), int)
            for size in range(9):
                self.assertEqual(always(web, (size,) * web[0]), size >= told)

    def test_hues(self):
        self.assertEqual(hues_many((1, ())), 1)
        self.assertEqual(hues_many((5, ())), 1)
        self.assertEqual(hues_many(TWO_TO_THREE), 2)
        self.assertEqual(hues_many(RING_OF_FIVE), 3)
        self.assertEqual([hues_many((places, plain.pairs(places))) for places in range(1, 6)], [1, 2, 3, 4, 5])
        for web in [web for places in (1, 2, 3, 4) for web in plain.all_webs(places)] + plain.unlike_webs(5):
            told = hues_many(web)
            self.assertIs(type(told), int)
            self.assertTrue(plain.has_choice(web, (tuple(range(told)),) * web[0]))
            self.assertFalse(plain.has_choice(web, (tuple(range(told - 1)),) * web[0]))

    def test_between_hues_and_ties(self):
        for web in plain.all_webs(4) + plain.all_webs(5):
            self.assertGreaterEqual(least_length(web), hues_many(web))
            self.assertLessEqual(least_length(web), plain.most_ties(web) + 1)


class More(unittest.TestCase):
    def test_a_size_more(self):
        for web in plain.unlike_webs(4):
            for sizes in product(range(4), repeat=4):
                if always(web, sizes):
                    for place in range(4):
                        more = sizes[:place] + (sizes[place] + 1,) + sizes[place + 1:]
                        self.assertIs(always(web, more), True, (web, sizes, place))

    def test_a_tie_more(self):
        for web in plain.unlike_webs(4):
            for tie in combinations(range(4), 2):
                tighter = (4, tuple(sorted(set(web[1]) | {tie})))
                for sizes in product(range(1, 4), repeat=4):
                    if always(tighter, sizes):
                        self.assertIs(always(web, sizes), True, (web, tie, sizes))

    def test_a_choice_or_a_bar_never_both(self):
        chance = random.Random(34)
        for web in plain.some_webs(100, 34, most=5):
            lists = plain.some_lists(web, chance)
            sizes = sizes_of(web, lists)
            if always(web, sizes):
                self.assertIsNone(none_paper(web, lists))
                self.assertIs(is_bar(lists, web, sizes), False)
            else:
                self.assertIsNotNone(none_paper(web, bar_for(web, sizes)))


class Refused(unittest.TestCase):
    def asks(self, web, sizes, thing):
        return lambda: always(web, sizes), lambda: bar_for(web, sizes), lambda: is_bar(thing, web, sizes)

    def test_no_web_ahead_of_all_else(self):
        for web in BAD_WEBS:
            self.assertRaises(NoWeb, least_length, web)
            self.assertRaises(NoWeb, hues_many, web)
            for sizes in ((1, 1), None, [web], (9,)):
                for ask in self.asks(web, sizes, sizes):
                    self.assertRaises(NoWeb, ask)

    def test_then_no_sizes(self):
        for sizes in BAD_SIZES:
            for thing in (((0,), (0,)), None, sizes):
                for web in (TWO,) + GREAT_WEBS:
                    for ask in self.asks(web, sizes, thing):
                        self.assertRaises(NoSizes, ask)

    def test_sizes_of_another_web(self):
        for sizes in ((1,) * 5, (1,) * 7, (9,) * 6, (1, 1, 1, 1, 1, -1), (True,) * 6, [1] * 6):
            for ask in self.asks((6, ()), sizes, None):
                self.assertRaises(NoSizes, ask)

    def test_six_places_behind_all_else(self):
        for web in GREAT_WEBS:
            self.assertRaises(TooMany, least_length, web)
            self.assertRaises(TooMany, hues_many, web)
            for sizes in ((0,) * 6, (1,) * 6, (8,) * 6):
                for thing in (((),) * 6, ((0,),) * 6) + ODD:
                    for ask in self.asks(web, sizes, thing):
                        self.assertRaises(TooMany, ask)

    def test_five_places_are_taken(self):
        for web in ((5, ()), FULL_OF_FIVE):
            self.assertIs(always(web, (8,) * 5), True)
            self.assertIs(always(web, (0,) * 5), False)
            self.assertIs(is_bar(((),) * 5, web, (0,) * 5), True)


if __name__ == "__main__":
    unittest.main()
