"""Promises 41 to 44: orders, cores, choices by orders, narrowness."""

import random
import unittest
from itertools import permutations, product

from huelists.always import always, least_length
from huelists.errors import NoLists, NoOrder, NoSizes, NoWeb
from huelists.orders import choice_by, core, is_order, narrowness, order_for
from huelists.webs import is_choice, sizes_of
from tests import plain
from tests.kinds import ALL_TIES, BAD_LISTS, BAD_SIZES, BAD_WEBS, BIG, ODD, TWO

PATH = (3, ((0, 1), (1, 2)))
TRIANGLE = (3, ((0, 1), (0, 2), (1, 2)))
FULL = (6, ALL_TIES)
RING = (6, ((0, 1), (0, 5), (1, 2), (2, 3), (3, 4), (4, 5)))


def asked(many=240, seed=41):
    """Webs of one to six places, with sizes."""
    chance = random.Random(seed)
    for web in plain.some_webs(many, seed):
        yield web, tuple(chance.choice((0, 1, 1, 2, 2, 3, 3, 4, 5, 8)) for place in range(web[0]))


def from_behind(web, sizes):
    """The places that go, and those left, as the document tells it."""
    left, order = set(range(web[0])), ()
    while True:
        able = [place for place in left if sizes[place] > len(plain.tied(web, place) & left)]
        if not able:
            return order, left
        order = (min(able),) + order
        left.remove(min(able))


def left_by_chance(web, sizes, chance):
    """The places left where it is chance which one goes first."""
    left = set(range(web[0]))
    while True:
        able = sorted(place for place in left if sizes[place] > len(plain.tied(web, place) & left))
        if not able:
            return tuple(sorted(left))
        left.remove(chance.choice(able))


def alone(web, places):
    """The web of these places alone."""
    ties = tuple((places.index(a), places.index(b)) for a, b in web[1] if a in places and b in places)
    return len(places), ties


class Orders(unittest.TestCase):
    def test_each_row_of_places(self):
        for web, sizes in asked(90):
            due = set(plain.orders(web, sizes))
            for row in permutations(range(web[0])):
                self.assertIs(is_order(row, web, sizes), row in due, (web, sizes, row))

    def test_by_hand(self):
        self.assertIs(is_order((0, 1, 2), PATH, (1, 2, 2)), True)
        self.assertIs(is_order((2, 1, 0), PATH, (1, 2, 2)), False)
        self.assertIs(is_order((0, 2, 1), PATH, (1, 2, 1)), False)
        self.assertIs(is_order((0, 2, 1), PATH, (1, 3, 1)), True)
        self.assertIs(is_order((0,), (1, ()), (1,)), True)
        self.assertIs(is_order((0,), (1, ()), (0,)), False)
        self.assertIs(is_order((5, 4, 3, 2, 1, 0), FULL, (6, 5, 4, 3, 2, 1)), True)
        self.assertIs(is_order((5, 4, 3, 2, 1, 0), FULL, (5, 5, 4, 3, 2, 1)), False)

    def test_rows_that_are_not_all_places_once(self):
        for row in product(range(-1, 4), repeat=3):
            self.assertIs(is_order(row, (3, ()), (8, 8, 8)), sorted(row) == [0, 1, 2], row)
        for row in ((), (0,), (0, 1), (0, 1, 2, 3), (0, 1, 2, 2), (0, 1, BIG), (0, 1, -BIG)):
            self.assertIs(is_order(row, (3, ()), (8, 8, 8)), False)

    def test_of_whatever_kind(self):
        kinds = ([0, 1], {0: 0, 1: 1}, "01", ((0, 1),), ((0,), (1,)), (False, True), (0, True), (False, 1), (True, 0))
        for thing in ODD + kinds + (0, 1, (), (0, "1"), (None, 1), ([0], 1), ({}, 0)):
            with self.subTest(thing):
                self.assertIs(is_order(thing, TWO, (8, 8)), False)
                self.assertIs(is_order((thing,), (1, ()), (8,)), type(thing) is int and thing == 0)

    def test_put_together_from_behind(self):
        found = 0
        for web, sizes in asked(600):
            order, left = from_behind(web, sizes)
            self.assertEqual(order_for(web, sizes), None if left else order, (web, sizes))
            if not left:
                found += 1
                self.assertIs(is_order(order, web, sizes), True)
            if web[0] < 6:
                self.assertEqual(bool(left), not plain.orders(web, sizes))
        self.assertGreater(found, 100)

    def test_told_by_hand(self):
        self.assertEqual(order_for(PATH, (1, 2, 2)), (0, 1, 2))
        self.assertEqual(order_for(PATH, (2, 2, 2)), (2, 1, 0))
        self.assertEqual(order_for((3, ()), (1, 1, 1)), (2, 1, 0))
        self.assertIsNone(order_for((3, ()), (1, 0, 1)))
        self.assertIsNone(order_for(TRIANGLE, (2, 2, 2)))
        self.assertEqual(order_for(TRIANGLE, (1, 3, 2)), (0, 2, 1))
        self.assertEqual(order_for(FULL, (8,) * 6), (5, 4, 3, 2, 1, 0))
        self.assertIsNone(order_for(FULL, (5,) * 6))
        self.assertIsNone(order_for(RING, (2,) * 6))
        self.assertEqual(order_for(RING, (2, 2, 2, 3, 2, 2)), (5, 4, 0, 1, 2, 3))


class Cores(unittest.TestCase):
    def test_left_where_none_can_go(self):
        chance = random.Random(42)
        for web, sizes in asked(600):
            left = tuple(sorted(from_behind(web, sizes)[1]))
            self.assertEqual(core(web, sizes), left)
            self.assertEqual(left_by_chance(web, sizes, chance), left)
            self.assertEqual(core(web, sizes) == (), order_for(web, sizes) is not None)

    def test_by_hand(self):
        self.assertEqual(core(PATH, (1, 1, 1)), (0, 1, 2))
        self.assertEqual(core(PATH, (1, 1, 2)), (0, 1))
        self.assertEqual(core(PATH, (1, 2, 2)), ())
        self.assertEqual(core((1, ()), (0,)), (0,))
        self.assertEqual(core((1, ()), (1,)), ())
        self.assertEqual(core(FULL, (5,) * 6), (0, 1, 2, 3, 4, 5))
        self.assertEqual(core(FULL, (8,) * 6), ())
        self.assertEqual(core(FULL, (8, 4, 4, 4, 4, 4)), (1, 2, 3, 4, 5))
        self.assertEqual(core((6, ((0, 1), (0, 2), (1, 2), (3, 4))), (2, 2, 2, 1, 2, 0)), (0, 1, 2, 5))

    def test_always_just_where_the_core_has_one(self):
        for web in plain.unlike_webs(4):
            for sizes in product(range(4), repeat=4):
                inner = core(web, sizes)
                if inner:
                    due = always(alone(web, inner), tuple(sizes[place] for place in inner))
                    self.assertEqual(always(web, sizes), due)
                else:
                    self.assertIs(always(web, sizes), True)


class ByOrders(unittest.TestCase):
    def test_each_order(self):
        chance = random.Random(43)
        for web in plain.some_webs(120, 43):
            lists = plain.some_lists(web, chance, 7, 6)
            for order in plain.orders(web, sizes_of(web, lists))[::7]:
                chosen = {}
                for place in order:
                    held = [chosen[other] for other in plain.tied(web, place) if other in chosen]
                    chosen[place] = [hue for hue in lists[place] if hue not in held][0]
                told = choice_by(web, lists, order)
                self.assertEqual(told, tuple(chosen[place] for place in range(web[0])))
                self.assertIs(is_choice(told, web, lists), True)

    def test_by_hand(self):
        lists = ((0, 1), (0, 1), (0, 1))
        self.assertEqual(choice_by(PATH, lists, (0, 1, 2)), (0, 1, 0))
        self.assertEqual(choice_by(PATH, lists, (1, 0, 2)), (1, 0, 1))
        self.assertEqual(choice_by((2, ()), ((3, 4), (3,)), (1, 0)), (3, 3))
        self.assertEqual(choice_by((1, ()), ((99,),), (0,)), (99,))
        self.assertEqual(choice_by(FULL, (tuple(range(8)),) * 6, (3, 1, 0, 2, 5, 4)), (2, 1, 3, 0, 5, 4))

    def test_no_order(self):
        lists = ((0, 1), (0,))
        self.assertEqual(choice_by(TWO, lists, (1, 0)), (1, 0))
        kinds = ((0, 1), (), (0,), (1, 0, 0), (1, 1), [1, 0], {1: 0, 0: 1}, "10", (True, False), (True, 0), (1, False))
        for thing in ODD + kinds + (1, 0, (1, None), ((1, 0),)):
            with self.subTest(thing), self.assertRaises(NoOrder):
                choice_by(TWO, lists, thing)

    def test_row_that_would_do_for_these_lists_but_is_no_order(self):
        with self.assertRaises(NoOrder):
            choice_by(TWO, ((0,), (1,)), (0, 1))
        with self.assertRaises(NoOrder):
            choice_by((1, ()), ((),), (0,))


class Narrowness(unittest.TestCase):
    def test_least_of_all(self):
        for web in plain.some_webs(180, 44):
            told = narrowness(web)
            self.assertIs(type(told), int)
            for size in range(9):
                self.assertEqual(order_for(web, (size,) * web[0]) is not None, size >= told, (web, size))

    def test_by_hand(self):
        self.assertEqual(narrowness((1, ())), 1)
        self.assertEqual(narrowness((6, ())), 1)
        self.assertEqual(narrowness(PATH), 2)
        self.assertEqual(narrowness(RING), 3)
        self.assertEqual([narrowness((places, plain.pairs(places))) for places in range(1, 7)], [1, 2, 3, 4, 5, 6])
        self.assertEqual(narrowness((6, ((0, 3), (0, 4), (0, 5), (1, 3), (1, 4), (1, 5), (2, 3), (2, 4), (2, 5)))), 4)

    def test_between_least_length_and_ties(self):
        for web in plain.all_webs(4) + plain.unlike_webs(5):
            self.assertGreaterEqual(narrowness(web), least_length(web))
            self.assertLessEqual(narrowness(web), plain.most_ties(web) + 1)
        for web in plain.some_webs(60, 45, least=6):
            self.assertLessEqual(narrowness(web), plain.most_ties(web) + 1)


class Refused(unittest.TestCase):
    def test_no_web_ahead_of_all_else(self):
        for web in BAD_WEBS:
            self.assertRaises(NoWeb, narrowness, web)
            for thing in ((1, 1), ((0,), (1,)), None, [web]):
                self.assertRaises(NoWeb, is_order, thing, web, thing)
                self.assertRaises(NoWeb, order_for, web, thing)
                self.assertRaises(NoWeb, core, web, thing)
                self.assertRaises(NoWeb, choice_by, web, thing, thing)

    def test_then_no_sizes(self):
        for sizes in BAD_SIZES:
            self.assertRaises(NoSizes, order_for, TWO, sizes)
            self.assertRaises(NoSizes, core, TWO, sizes)
            for thing in ((0, 1), None, sizes):
                self.assertRaises(NoSizes, is_order, thing, TWO, sizes)

    def test_then_no_lists(self):
        for lists in BAD_LISTS:
            for thing in ((0, 1), None, lists):
                self.assertRaises(NoLists, choice_by, TWO, lists, thing)


if __name__ == "__main__":
    unittest.main()
