"""Promises 61 and 62: tie lists and tie choices, the width, the first part of two-sided webs."""

import random
import unittest
from itertools import combinations, product

from huelists.errors import NoLists, NoWeb
from huelists.tielists import are_tie_lists, first_part, first_tie_choice, is_tie_choice, tie_choices_many, width
from tests import plain
from tests.kinds import ALL_TIES, BAD_HUES, BAD_WEBS, BIG, EIGHT, GOOD_HUES, NINE, ODD, TWO

ONE = (1, ())
PATH = (3, ((0, 1), (1, 2)))
TRIANGLE = (3, ((0, 1), (0, 2), (1, 2)))
APART = (4, ((0, 1), (2, 3)))
STAR = (6, ((0, 1), (0, 2), (0, 3), (0, 4), (0, 5)))
FULL = (6, ALL_TIES)
RING_OF_FOUR = (4, ((0, 1), (0, 3), (1, 2), (2, 3)))
RING_OF_FIVE = (5, ((0, 1), (0, 4), (1, 2), (2, 3), (3, 4)))
RING_OF_SIX = (6, ((0, 1), (0, 5), (1, 2), (2, 3), (3, 4), (4, 5)))
THREE_TO_THREE = (6, tuple(product((0, 1, 2), (3, 4, 5))))

# What is no tie lists of PATH, of whatever kind.
BAD_TIE_LISTS = ODD + (
    (), ((),), ((0,),), ((0,), (1,), (2,)), ((), (), ()), [(), ()], [(0,), (1,)], {0: (0,), 1: (1,)}, "01", 0,
) + tuple(((0,), hues) for hues in BAD_HUES) + tuple((hues, (0,)) for hues in BAD_HUES)


def asked(many=120, seed=61):
    """Webs, with tie lists of few hues."""
    chance = random.Random(seed)
    for web in plain.some_webs(many, seed, most_ties=9):
        yield web, plain.some_tie_lists(web, chance, chance.randint(2, 6), chance.randint(1, 4), chance.randint(0, 1))
    for web in plain.some_webs(many, seed + 1, least=4):
        yield web, plain.some_tie_lists(web, chance, 5, 3, 1)


class TieLists(unittest.TestCase):
    def test_of_each_number_of_ties(self):
        for many in range(16):
            web = (6, ALL_TIES[:many])
            for length in range(18):
                for hues in ((), (0,), EIGHT):
                    self.assertIs(are_tie_lists((hues,) * length, web), length == many)

    def test_without_ties(self):
        for places in range(1, 7):
            self.assertIs(are_tie_lists((), (places, ())), True)
            for thing in ODD + (((),), ((),) * places, 0):
                self.assertIs(are_tie_lists(thing, (places, ())), False)

    def test_one_ties_hues(self):
        for hues in GOOD_HUES:
            self.assertIs(are_tie_lists((hues,), TWO), True)
            self.assertIs(are_tie_lists((hues, hues), PATH), True)
            self.assertIs(are_tie_lists(((0, 1),) * 14 + (hues,), FULL), True)
        for hues in BAD_HUES:
            self.assertIs(are_tie_lists((hues,), TWO), False)
            self.assertIs(are_tie_lists(((0, 1),) * 14 + (hues,), FULL), False)

    def test_by_ties_not_by_places(self):
        self.assertIs(are_tie_lists(((0,), (1,), (2,)), TRIANGLE), True)
        self.assertIs(are_tie_lists(((0,), (1,), (2,)), PATH), False)
        self.assertIs(are_tie_lists(((0,), (1,)), TWO), False)
        self.assertIs(are_tie_lists(((0,),) * 6, FULL), False)

    def test_of_whatever_kind(self):
        for thing in BAD_TIE_LISTS:
            with self.subTest(thing):
                self.assertIs(are_tie_lists(thing, PATH), False)
        for thing in ODD:
            self.assertIs(are_tie_lists(thing, FULL), False)


class TieChoices(unittest.TestCase):
    def test_each_row_of_hues(self):
        for web in plain.all_webs(3) + [APART, RING_OF_FOUR]:
            lists = ((0, 1), (1, 2), (0, 2), (1,))[:len(web[1])]
            due = set(plain.tie_choices(web, lists))
            for row in product(range(-1, 4), repeat=len(lists)):
                self.assertIs(is_tie_choice(row, web, lists), row in due, (web, row))

    def test_two_ties_of_one_place_alike(self):
        lists = ((0, 1),) * 2
        self.assertIs(is_tie_choice((0, 1), PATH, lists), True)
        self.assertIs(is_tie_choice((1, 1), PATH, lists), False)
        self.assertIs(is_tie_choice((1, 1), APART, lists), True)
        five = (tuple(range(5)),) * 5
        self.assertIs(is_tie_choice((4, 3, 2, 1, 0), STAR, five), True)
        self.assertIs(is_tie_choice((4, 3, 2, 1, 4), STAR, five), False)
        for one, other in combinations(range(15), 2):
            row = list(range(15))
            row[other] = one
            lists = tuple((hue,) for hue in row)
            common = plain.meet(ALL_TIES[one], ALL_TIES[other])
            self.assertIs(is_tie_choice(tuple(row), FULL, lists), not common)

    def test_hue_not_in_its_list(self):
        self.assertIs(is_tie_choice((0, 1), PATH, ((0,), (1,))), True)
        self.assertIs(is_tie_choice((1, 0), PATH, ((0,), (1,))), False)
        self.assertIs(is_tie_choice((0, 2), PATH, ((0,), (1,))), False)
        self.assertIs(is_tie_choice((0, 1), PATH, ((0,), ())), False)

    def test_too_few_or_too_many(self):
        lists = ((0, 1), (1, 2))
        for row in ((), (0,), (0, 1, 2), (0, 1, 0), (0, 1, 1)):
            self.assertIs(is_tie_choice(row, PATH, lists), False)
        self.assertIs(is_tie_choice((), ONE, ()), True)
        self.assertIs(is_tie_choice((0,), ONE, ()), False)

    def test_of_whatever_kind(self):
        lists = ((0, 1), (0, 1))
        kinds = (
            (0, True), (False, 1), (True, 0), (1, False), (False, True), (True, False), [0, 1], {0: 0, 1: 1}, "01",
            ((0, 1),), ((0,), (1,)), (0, None), (0, "1"), ([0], 1), (0, BIG), (-BIG, 1), 0, 1,
        )
        for thing in ODD + kinds:
            with self.subTest(thing):
                self.assertIs(is_tie_choice(thing, PATH, lists), False)
                self.assertIs(is_tie_choice(thing, ONE, ()), False)
                self.assertIs(is_tie_choice((thing,), TWO, ((0, 1),)), type(thing) is int and thing in (0, 1))


class FirstAndMany(unittest.TestCase):
    def test_all_gone_through(self):
        none = some = 0
        for web, lists in asked():
            due = list(plain.tie_choices(web, lists))
            told = first_tie_choice(web, lists)
            self.assertEqual(told, due[0] if due else None, (web, lists))
            self.assertEqual(tie_choices_many(web, lists), len(due), (web, lists))
            self.assertIs(type(tie_choices_many(web, lists)), int)
            if due:
                self.assertIs(type(told), tuple)
                self.assertIs(is_tie_choice(told, web, lists), True)
            none += not due
            some += len(due) > 1
        self.assertGreater(none, 50)
        self.assertGreater(some, 50)

    def test_without_ties(self):
        for places in range(1, 7):
            self.assertEqual(first_tie_choice((places, ()), ()), ())
            self.assertEqual(tie_choices_many((places, ()), ()), 1)

    def test_where_there_is_none(self):
        cases = (
            (TWO, ((),)), (PATH, ((0,), (0,))), (PATH, ((), (0,))), (PATH, ((0,), ())), (TRIANGLE, ((0, 1),) * 3),
            (STAR, ((0, 1, 2, 3),) * 5), (RING_OF_FIVE, ((0, 1),) * 5), (FULL, ((0, 1, 2, 3),) * 15),
            (FULL, (EIGHT,) * 14 + ((),)), (FULL, ((),) + (EIGHT,) * 14), ((5, plain.pairs(5)), ((0, 1, 2, 3),) * 10),
        )
        for web, lists in cases:
            self.assertIsNone(first_tie_choice(web, lists), (web, lists))
            self.assertEqual(tie_choices_many(web, lists), 0)

    def test_by_hand(self):
        self.assertEqual(first_tie_choice(PATH, ((0, 1), (0, 1))), (0, 1))
        self.assertEqual(first_tie_choice(PATH, ((0, 1), (0,))), (1, 0))
        self.assertEqual(first_tie_choice(APART, ((3, 4), (3, 99))), (3, 3))
        self.assertEqual(first_tie_choice(STAR, ((0, 1, 2, 3, 4),) * 5), (0, 1, 2, 3, 4))
        self.assertEqual(tie_choices_many(PATH, ((0, 1), (0, 1))), 2)
        self.assertEqual(tie_choices_many(APART, ((0, 1), (0, 1))), 4)
        self.assertEqual(tie_choices_many(STAR, (EIGHT,) * 5), 8 * 7 * 6 * 5 * 4)
        # Six ways to part all ties in five times three, each with its hues in any order.
        self.assertEqual(tie_choices_many(FULL, ((0, 1, 2, 3, 4),) * 15), 720)

    def test_unlike_lists_come_to_the_product(self):
        apart = tuple(tuple(range(6 * tie, 6 * tie + 6)) for tie in range(15))
        self.assertEqual(tie_choices_many(FULL, apart), 6 ** 15)
        self.assertEqual(first_tie_choice(FULL, apart), tuple(range(0, 90, 6)))

    def test_with_ties_apart_the_product(self):
        chance = random.Random(62)
        three = (6, ((0, 1), (2, 3), (4, 5)))
        for number in range(40):
            lists = plain.some_tie_lists(three, chance, 9, 8)
            self.assertEqual(tie_choices_many(three, lists), len(lists[0]) * len(lists[1]) * len(lists[2]))

    def test_hue_by_hue_as_tie_by_tie(self):
        chance = random.Random(63)
        for hues in (9, 24):
            lists = plain.some_tie_lists(FULL, chance, hues, 8, 8)
            many = tie_choices_many(FULL, lists)
            # Those with each hue of the first tie go together to all.
            split = [tie_choices_many(FULL, ((hue,),) + lists[1:]) for hue in lists[0]]
            self.assertEqual(sum(split), many)
            first = first_tie_choice(FULL, lists)
            self.assertIs(is_tie_choice(first, FULL, lists), True)
            self.assertEqual(first, next(plain.tie_choices(FULL, lists)))

    def test_a_first_that_a_look_ahead_is_needed_for(self):
        # The ties among places 1 to 5 have no choice but one hue of eight each at place 0.
        lists = tuple(EIGHT if 0 in tie else (0, 1, 2, 3, 4) for tie in ALL_TIES)
        due = next(plain.tie_choices(FULL, lists))
        self.assertEqual(first_tie_choice(FULL, lists), due)
        barred = tuple((10, 11, 12, 13, 14, 15, 16, 17) if 0 in tie else (0, 1, 2, 3) for tie in ALL_TIES)
        self.assertIsNone(first_tie_choice(FULL, barred))
        self.assertEqual(tie_choices_many(FULL, barred), 0)

    def test_no_tie_lists(self):
        for lists in BAD_TIE_LISTS:
            with self.subTest(lists):
                self.assertRaises(NoLists, first_tie_choice, PATH, lists)
                self.assertRaises(NoLists, tie_choices_many, PATH, lists)
        for lists in ((NINE,) * 15, (EIGHT,) * 14, (EIGHT,) * 16, (EIGHT,) * 6, [EIGHT] * 15):
            self.assertRaises(NoLists, first_tie_choice, FULL, lists)
            self.assertRaises(NoLists, tie_choices_many, FULL, lists)


class Width(unittest.TestCase):
    def test_greatest_number_of_ties_at_a_place(self):
        for web in plain.all_webs(4) + plain.some_webs(120, 62):
            told = width(web)
            self.assertIs(type(told), int)
            self.assertEqual(told, plain.most_ties(web))

    def test_by_hand(self):
        self.assertEqual([width((places, ())) for places in range(1, 7)], [0] * 6)
        self.assertEqual([width((places, plain.pairs(places))) for places in range(1, 7)], [0, 1, 2, 3, 4, 5])
        self.assertEqual([width(web) for web in (TWO, PATH, APART, STAR, RING_OF_SIX)], [1, 2, 1, 5, 2])


class FirstPart(unittest.TestCase):
    def test_all_partings_gone_through(self):
        sided = 0
        for web in plain.all_webs(4) + plain.some_webs(240, 63) + plain.two_sided_webs(240, 64):
            due = plain.first_parts(web)
            self.assertLessEqual(len(due), 1)
            self.assertEqual(first_part(web), due[0] if due else None, web)
            sided += len(due)
        self.assertGreater(sided, 240)

    def test_by_hand(self):
        self.assertEqual(first_part(ONE), (0,))
        self.assertEqual(first_part((6, ())), (0, 1, 2, 3, 4, 5))
        self.assertEqual(first_part(TWO), (0,))
        self.assertEqual(first_part(PATH), (0, 2))
        self.assertEqual(first_part(APART), (0, 2))
        self.assertEqual(first_part(STAR), (0,))
        self.assertEqual(first_part((6, ((0, 5), (1, 5), (2, 5), (3, 5), (4, 5)))), (0, 1, 2, 3, 4))
        self.assertEqual(first_part(RING_OF_FOUR), (0, 2))
        self.assertEqual(first_part(RING_OF_SIX), (0, 2, 4))
        self.assertEqual(first_part(THREE_TO_THREE), (0, 1, 2))
        # Of several pieces each has its least place in the first part.
        self.assertEqual(first_part((6, ((0, 3), (1, 2), (2, 4)))), (0, 1, 4, 5))
        self.assertEqual(first_part((5, ((0, 4), (1, 4), (2, 3)))), (0, 1, 2))

    def test_not_two_sided(self):
        for web in (TRIANGLE, RING_OF_FIVE, FULL, (6, ((3, 4), (3, 5), (4, 5))), (6, ((0, 1), (2, 3), (2, 4), (3, 4))),
                    (6, RING_OF_FIVE[1] + ((4, 5),)), (4, RING_OF_FOUR[1][:1] + ((0, 2),) + RING_OF_FOUR[1][1:])):
            self.assertIsNone(first_part(web), web)

    def test_choice_of_hues_as_many_as_the_width(self):
        for web in plain.two_sided_webs(120, 65) + [THREE_TO_THREE, STAR, RING_OF_SIX]:
            lists = (tuple(range(width(web))),) * len(web[1])
            self.assertIs(is_tie_choice(first_tie_choice(web, lists), web, lists), True)
        for web in (TRIANGLE, RING_OF_FIVE, (5, plain.pairs(5))):
            self.assertIsNone(first_tie_choice(web, (tuple(range(width(web))),) * len(web[1])))


class Refused(unittest.TestCase):
    def test_no_web_ahead_of_all_else(self):
        for web in BAD_WEBS:
            self.assertRaises(NoWeb, width, web)
            self.assertRaises(NoWeb, first_part, web)
            for thing in ((), ((0,),), (0,), None, [web]):
                self.assertRaises(NoWeb, are_tie_lists, thing, web)
                self.assertRaises(NoWeb, is_tie_choice, thing, web, thing)
                self.assertRaises(NoWeb, first_tie_choice, web, thing)
                self.assertRaises(NoWeb, tie_choices_many, web, thing)

    def test_then_no_lists(self):
        for lists in BAD_TIE_LISTS:
            for thing in ((0, 1), (), None, lists):
                self.assertRaises(NoLists, is_tie_choice, thing, PATH, lists)


if __name__ == "__main__":
    unittest.main()
