"""Promises 71, 72 and 74: choices counted where all places have one list, and runs that don't go round."""

import unittest
from itertools import product

from huelists.choices import choices_many
from huelists.counts import count_at, no_rounds_many, powers_of
from huelists.errors import NoNumber, NoWeb
from tests import plain
from tests.kinds import ALL_TIES, BAD_WEBS, BIG, ODD, TWO

PATH = (3, ((0, 1), (1, 2)))
TRIANGLE = (3, ((0, 1), (0, 2), (1, 2)))
RING_OF_FOUR = (4, ((0, 1), (0, 3), (1, 2), (2, 3)))
RING_OF_FIVE = (5, ((0, 1), (0, 4), (1, 2), (2, 3), (3, 4)))
RING_OF_SIX = (6, ((0, 1), (0, 5), (1, 2), (2, 3), (3, 4), (4, 5)))
FULL = (6, ALL_TIES)
# What is no whole number, of whatever kind.
NO_WHOLE = tuple(thing for thing in ODD if type(thing) is not int) + ((), (1,), [1], {1: 1}, "-1", "1" * 30, (1, 2))


def asked(many=120, seed=71):
    return plain.some_webs(many, seed) + [RING_OF_FOUR, RING_OF_FIVE, RING_OF_SIX, FULL, (6, ())]


def worth(numbers, q):
    return sum(number * q ** power for power, number in enumerate(numbers))


def times(numbers, others):
    """The sum of powers that is the product of two."""
    told = [0] * (len(numbers) + len(others) - 1)
    for one, number in enumerate(numbers):
        for power, other in enumerate(others):
            told[one + power] += number * other
    return tuple(told)


def beside(web, other):
    """The one web with the other's places behind its own."""
    shifted = tuple((a + web[0], b + web[0]) for a, b in other[1])
    return web[0] + other[0], web[1] + shifted


def one_place_of_two(web, tie):
    """The web in which the tie's two places are one."""
    a, b = tie
    names = [a if place == b else place - (place > b) for place in range(web[0])]
    ties = {tuple(sorted((names[x], names[y]))) for x, y in web[1] if (x, y) != tie}
    return web[0] - 1, tuple(sorted(ties))


class Powers(unittest.TestCase):
    def test_as_many_numbers_as_places_and_one_more(self):
        for web in plain.all_webs(4) + asked():
            told = powers_of(web)
            self.assertIs(type(told), tuple)
            self.assertEqual(len(told), web[0] + 1)
            self.assertEqual({type(number) for number in told}, {int})

    def test_choices_gone_through(self):
        for web in plain.all_webs(4) + plain.some_webs(24, 72, least=5):
            numbers = powers_of(web)
            for q in range(web[0] + 1):
                many = sum(all(row[a] != row[b] for a, b in web[1]) for row in product(range(q), repeat=web[0]))
                self.assertEqual(worth(numbers, q), many, (web, q))
                self.assertEqual(count_at(web, q), many)

    def test_choices_of_lists_of_eight(self):
        for web in asked():
            for q in range(9):
                self.assertEqual(worth(powers_of(web), q), choices_many(web, (tuple(range(q)),) * web[0]))

    def test_by_hand(self):
        self.assertEqual(powers_of((1, ())), (0, 1))
        self.assertEqual(powers_of((6, ())), (0, 0, 0, 0, 0, 0, 1))
        self.assertEqual(powers_of(TWO), (0, -1, 1))
        self.assertEqual(powers_of(PATH), (0, 1, -2, 1))
        self.assertEqual(powers_of(TRIANGLE), (0, 2, -3, 1))
        self.assertEqual(powers_of(RING_OF_FOUR), (0, -3, 6, -4, 1))
        self.assertEqual(powers_of(FULL), (0, -120, 274, -225, 85, -15, 1))

    def test_pieces_beside_one_another(self):
        for places in (1, 2, 3):
            for web in plain.all_webs(places):
                for other in plain.all_webs(3):
                    self.assertEqual(powers_of(beside(web, other)), times(powers_of(web), powers_of(other)))

    def test_without_a_tie_less_with_its_places_one(self):
        for web in plain.all_webs(4)[1:] + [web for web in asked() if web[1]]:
            for tie in web[1]:
                less = (web[0], tuple(other for other in web[1] if other != tie))
                joined = powers_of(one_place_of_two(web, tie)) + (0,)
                due = tuple(one - other for one, other in zip(powers_of(less), joined))
                self.assertEqual(powers_of(web), due, (web, tie))


class Worth(unittest.TestCase):
    def test_at_numbers_of_each_kind(self):
        for web in asked():
            numbers = powers_of(web)
            for q in (0, 1, 2, 7, 100, -1, -2, -50, BIG, -BIG, 10 ** 29):
                told = count_at(web, q)
                self.assertIs(type(told), int)
                self.assertEqual(told, worth(numbers, q))

    def test_by_hand(self):
        self.assertEqual([count_at(TRIANGLE, q) for q in range(-3, 6)], [-60, -24, -6, 0, 0, 0, 6, 24, 60])
        self.assertEqual(count_at((1, ()), -BIG), -BIG)
        self.assertEqual(count_at((6, ()), BIG), BIG ** 6)
        self.assertEqual(count_at(FULL, 8), 8 * 7 * 6 * 5 * 4 * 3)

    def test_what_was_told_handed_in_again(self):
        for web in (TRIANGLE, FULL, (6, ())):
            q = BIG
            for again in range(3):
                told = count_at(web, q)
                self.assertEqual(told, worth(powers_of(web), q))
                q = -told

    def test_no_whole_number(self):
        for thing in NO_WHOLE:
            for web in (TWO, (1, ()), FULL):
                with self.subTest(thing), self.assertRaises(NoNumber):
                    count_at(web, thing)


class NoRounds(unittest.TestCase):
    def test_all_runs_gone_through(self):
        webs = plain.all_webs(4) + plain.some_webs(60, 73, most_ties=8)
        for web in webs + [RING_OF_FOUR, RING_OF_FIVE, RING_OF_SIX, (5, plain.pairs(5)), FULL]:
            all_runs = product((1, -1), repeat=len(web[1]))
            due = sum(not plain.goes_round(web, run) for run in all_runs)
            told = no_rounds_many(web)
            self.assertIs(type(told), int)
            self.assertEqual(told, due, web)

    def test_by_hand(self):
        self.assertEqual(no_rounds_many((1, ())), 1)
        self.assertEqual(no_rounds_many((6, ())), 1)
        self.assertEqual(no_rounds_many(TWO), 2)
        self.assertEqual(no_rounds_many(PATH), 4)
        self.assertEqual(no_rounds_many(RING_OF_SIX), 2 ** 6 - 2)
        self.assertEqual([no_rounds_many((places, plain.pairs(places))) for places in range(1, 7)],
                         [1, 2, 6, 24, 120, 720])

    def test_worth_at_less_one(self):
        for web in asked():
            self.assertEqual(no_rounds_many(web), abs(count_at(web, -1)))
            self.assertEqual(no_rounds_many(web), (-1) ** web[0] * count_at(web, -1))


class Refused(unittest.TestCase):
    def test_no_web_ahead_of_all_else(self):
        for web in BAD_WEBS:
            self.assertRaises(NoWeb, powers_of, web)
            self.assertRaises(NoWeb, no_rounds_many, web)
            for q in (0, -1, True, None, "1", [web]):
                self.assertRaises(NoWeb, count_at, web, q)


if __name__ == "__main__":
    unittest.main()
