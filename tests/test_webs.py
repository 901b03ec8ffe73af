"""Promises 2, 3 and 11: webs, lists, sizes and choices, and what is told of them."""

import unittest
from itertools import combinations, permutations, product

from huelists.errors import NoLists, NoNumber, NoWeb
from huelists.webs import are_lists, are_sizes, is_choice, is_web, near, sizes_of
from tests.kinds import (
    ALL_TIES, BAD_HUES, BAD_LISTS, BAD_PLACES, BAD_WEBS, BIG, EIGHT, GOOD_HUES, GOOD_WEBS, NINE, NO_WHOLE, ODD, TWO,
)


class Webs(unittest.TestCase):
    def test_webs(self):
        for web in GOOD_WEBS:
            with self.subTest(web):
                self.assertIs(is_web(web), True)

    def test_no_webs(self):
        for thing in BAD_WEBS:
            with self.subTest(thing):
                self.assertIs(is_web(thing), False)

    def test_each_number_of_places(self):
        for places in range(-3, 12):
            self.assertIs(is_web((places, ())), 1 <= places <= 6, places)

    def test_all_rising_ties(self):
        for places in range(1, 7):
            ties = tuple(combinations(range(places), 2))
            self.assertIs(is_web((places, ties)), True)
            for at in range(len(ties)):
                self.assertIs(is_web((places, ties[:at] + ties[at + 1:])), True)
                self.assertIs(is_web((places, ties[:at + 1] + ties[at:])), False)
            if len(ties) > 1:
                self.assertIs(is_web((places, ties[::-1])), False)
        self.assertEqual(len(ALL_TIES), 15)

    def test_only_rising_orders_of_ties(self):
        for many in range(7):
            for ties in permutations(((0, 1), (0, 2), (1, 2)), min(many, 3)):
                self.assertIs(is_web((3, ties)), list(ties) == sorted(ties))

    def test_each_pair_for_a_tie(self):
        for a in range(-2, 6):
            for b in range(-2, 6):
                self.assertIs(is_web((4, ((a, b),))), 0 <= a < b < 4, (a, b))

    def test_of_another_kind_in_each_place(self):
        for thing in NO_WHOLE:
            self.assertIs(is_web((thing, ())), False)
            self.assertIs(is_web((3, ((thing, 2),))), False)
            self.assertIs(is_web((3, ((0, thing),))), False)
            self.assertIs(is_web((3, ((0, 1), thing))), False)
            if thing != ():
                self.assertIs(is_web((3, thing)), False)


class Lists(unittest.TestCase):
    def test_of_one_place(self):
        for hues in GOOD_HUES:
            self.assertIs(are_lists((hues,), (1, ())), True, hues)
        for hues in BAD_HUES:
            self.assertIs(are_lists((hues,), (1, ())), False, hues)

    def test_of_six_places_each_wrong_in_turn(self):
        good = ((), (0,), (99,), EIGHT, (3, 4), (3, 4))
        for web in ((6, ()), (6, ALL_TIES)):
            self.assertIs(are_lists(good, web), True)
            for at in range(6):
                for hues in BAD_HUES:
                    self.assertIs(are_lists(good[:at] + (hues,) + good[at + 1:], web), False, (at, hues))

    def test_eight_hues_and_nine(self):
        self.assertIs(are_lists((EIGHT,), (1, ())), True)
        self.assertIs(are_lists((NINE,), (1, ())), False)

    def test_each_hue(self):
        for hue in range(-5, 110):
            self.assertIs(are_lists(((hue,),), (1, ())), 0 <= hue <= 99, hue)

    def test_too_few_and_too_many(self):
        for places in range(1, 7):
            for many in range(9):
                self.assertIs(are_lists(((1,),) * many, (places, ())), many == places)

    def test_of_whatever_kind(self):
        for thing in BAD_LISTS:
            with self.subTest(thing):
                self.assertIs(are_lists(thing, TWO), False)

    def test_refused(self):
        for web in BAD_WEBS:
            with self.assertRaises(NoWeb):
                are_lists((), web)


class Sizes(unittest.TestCase):
    def test_each_size(self):
        for size in range(-5, 15):
            for at in range(3):
                sizes = (0, 8, 4)[:at] + (size,) + (0, 8, 4)[at + 1:]
                self.assertIs(are_sizes(sizes, (3, ())), 0 <= size <= 8, sizes)

    def test_too_few_and_too_many(self):
        for places in range(1, 7):
            for many in range(9):
                self.assertIs(are_sizes((8,) * many, (places, ())), many == places)

    def test_of_another_kind_in_each_place(self):
        for thing in NO_WHOLE + (BIG, -BIG) + BAD_HUES:
            if thing not in (0, 1) or isinstance(thing, bool):
                self.assertIs(are_sizes((thing, 1), TWO), False, thing)
                self.assertIs(are_sizes((1, thing), TWO), False, thing)

    def test_of_whatever_kind(self):
        for thing in ODD + ([1, 1], {0: 1, 1: 1}, "11", (), 2, ((1, 1),), ((1,), (1,))):
            with self.subTest(thing):
                self.assertIs(are_sizes(thing, TWO), False)

    def test_refused(self):
        for web in BAD_WEBS:
            with self.assertRaises(NoWeb):
                are_sizes((), web)


class Choices(unittest.TestCase):
    def test_all_of_small_webs(self):
        lists = ((0, 1), (1, 2), (0, 2))
        ties = ((0, 1), (0, 2), (1, 2))
        for many in range(4):
            for some in combinations(ties, many):
                for hues in product(range(-1, 4), repeat=3):
                    due = all(hue in its for hue, its in zip(hues, lists)) and all(hues[a] != hues[b] for a, b in some)
                    self.assertIs(is_choice(hues, (3, some), lists), due, (some, hues))

    def test_of_one_place_and_of_six(self):
        self.assertIs(is_choice((99,), (1, ()), ((0, 99),)), True)
        self.assertIs(is_choice((1, 2, 3, 4, 5, 6), (6, ALL_TIES), ((1, 2, 3, 4, 5, 6),) * 6), True)
        self.assertIs(is_choice((1, 2, 3, 4, 5, 1), (6, ALL_TIES), ((1, 2, 3, 4, 5, 6),) * 6), False)
        self.assertIs(is_choice((1,) * 6, (6, ()), ((1,),) * 6), True)

    def test_each_tie_counts(self):
        for a, b in ALL_TIES:
            hues = [10, 11, 12, 13, 14, 15]
            hues[b] = hues[a]
            lists = ((10, 11, 12, 13, 14, 15),) * 6
            self.assertIs(is_choice(tuple(hues), (6, ALL_TIES), lists), False)
            self.assertIs(is_choice(tuple(hues), (6, tuple(t for t in ALL_TIES if t != (a, b))), lists), True)

    def test_hue_that_is_not_in_its_list(self):
        self.assertIs(is_choice((0, 1), TWO, ((0,), (1,))), True)
        self.assertIs(is_choice((1, 0), TWO, ((0,), (1,))), False)
        self.assertIs(is_choice((0, 2), TWO, ((0,), (1,))), False)
        self.assertIs(is_choice((0, 1), TWO, ((0,), ())), False)

    def test_truth_for_a_hue(self):
        lists = ((0, 1), (0, 1))
        self.assertIs(is_choice((0, 1), TWO, lists), True)
        for hues in ((False, True), (0, True), (False, 1), (True, 0), (1, False)):
            self.assertIs(is_choice(hues, TWO, lists), False, hues)

    def test_too_few_and_too_many(self):
        for hues in ((), (0,), (0, 1, 0), (0, 1, 2)):
            self.assertIs(is_choice(hues, TWO, ((0, 1), (0, 1))), False)

    def test_of_whatever_kind(self):
        for thing in ODD + ([0, 1], {0: 0, 1: 1}, "01", ((0, 1),), ((0,), (1,)), ((0, 1), (0, 1)), 0, 1):
            with self.subTest(thing):
                self.assertIs(is_choice(thing, TWO, ((0, 1), (0, 1))), False)
        for thing in ODD:
            self.assertIs(is_choice((thing, 1), TWO, ((0, 1), (0, 1))), False)
            self.assertIs(is_choice((0, thing), TWO, ((0, 1), (0, 1))), False)

    def test_refused(self):
        for web in BAD_WEBS:
            with self.assertRaises(NoWeb):
                is_choice((0, 1), web, ((0,), (1,)))
        for lists in BAD_LISTS:
            with self.assertRaises(NoLists):
                is_choice((0, 1), TWO, lists)


class Near(unittest.TestCase):
    def test_by_hand(self):
        web = (4, ((0, 2), (1, 2), (2, 3)))
        self.assertEqual([near(web, place) for place in range(4)], [(2,), (2,), (0, 1, 3), (2,)])
        self.assertEqual(near((1, ()), 0), ())
        self.assertEqual([near(TWO, 0), near(TWO, 1)], [(1,), (0,)])

    def test_all_tied_and_none(self):
        for place in range(6):
            self.assertEqual(near((6, ALL_TIES), place), tuple(k for k in range(6) if k != place))
            self.assertEqual(near((6, ()), place), ())

    def test_all_webs_of_four(self):
        ties = tuple(combinations(range(4), 2))
        for many in range(7):
            for some in combinations(ties, many):
                for place in range(4):
                    due = sorted(sum(tie) - place for tie in some if place in tie)
                    self.assertEqual(near((4, some), place), tuple(due))

    def test_no_place(self):
        for web in ((6, ALL_TIES), (6, ()), (1, ())):
            for place in BAD_PLACES:
                with self.subTest(place), self.assertRaises(NoNumber):
                    near(web, place)
        for places in range(1, 7):
            for place in (places, -1):
                with self.assertRaises(NoNumber):
                    near((places, ()), place)

    def test_refused(self):
        for web in BAD_WEBS:
            with self.assertRaises(NoWeb):
                near(web, 0)


class SizesOf(unittest.TestCase):
    def test_told(self):
        self.assertEqual(sizes_of((1, ()), ((),)), (0,))
        self.assertEqual(sizes_of((3, ((0, 1),)), ((), (7,), EIGHT)), (0, 1, 8))
        self.assertEqual(sizes_of((6, ALL_TIES), GOOD_HUES[:6]), (0, 1, 1, 2, 2, 8))

    def test_they_are_sizes(self):
        for many in product((0, 1, 7, 8), repeat=3):
            lists = tuple(tuple(range(size)) for size in many)
            self.assertEqual(sizes_of((3, ()), lists), many)
            self.assertIs(are_sizes(sizes_of((3, ()), lists), (3, ())), True)

    def test_refused(self):
        for web in BAD_WEBS:
            with self.assertRaises(NoWeb):
                sizes_of(web, ((0,), (1,)))
        for lists in BAD_LISTS:
            with self.subTest(lists), self.assertRaises(NoLists):
                sizes_of(TWO, lists)


if __name__ == "__main__":
    unittest.main()
