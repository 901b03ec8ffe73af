"""Promises 51 to 55: the product's terms, term papers, runs."""

import random
import unittest
from itertools import product

from huelists.always import always
from huelists.errors import NoNumber, NoSizes, NoWeb, TooMany
from huelists.orders import order_for
from huelists.terms import is_term_paper, runs_many, term, term_for, terms
from tests import plain
from tests.kinds import ALL_TIES, BAD_SIZES, BAD_WEBS, BIG, ODD, TWO

PATH = (3, ((0, 1), (1, 2)))
TRIANGLE = (3, ((0, 1), (0, 2), (1, 2)))
FULL_OF_FIVE = (5, plain.pairs(5))
TEN = (6, ALL_TIES[:10])
ELEVEN = (6, ALL_TIES[:11])
GREAT_WEBS = (ELEVEN, (6, ALL_TIES[4:]), (6, ALL_TIES))
TWO_TO_FOUR = (6, ((0, 2), (0, 3), (0, 4), (0, 5), (1, 2), (1, 3), (1, 4), (1, 5)))

# What is no powers of a web of three places, of whatever kind.
BAD_POWERS = ODD + (
    (), (0,), (0, 0), (0, 0, 0, 0), (1, 1, -1), (-1, 2, 1), (0, 0, -BIG), (1, 1, True), (False, 1, 1), (True, True, 0),
    (1, 1, None), (1, "1", 0), ([1], 1, 0), (1, (1,), 0), (1, {}, 0), [1, 1, 0], {0: 1, 1: 1, 2: 0}, "110", 110, 0,
    ((1, 1, 0),), ((1,), (1,), (0,)),
)


def asked(many=120, seed=51):
    return plain.some_webs(many, seed, most_ties=10)


def worth(numbers, xs):
    """The sum of the terms, where each x has the worth told."""
    total = 0
    for powers, number in numbers.items():
        for x, power in zip(xs, powers):
            number *= x ** power
        total += number
    return total


class Terms(unittest.TestCase):
    def test_by_hand(self):
        self.assertEqual(terms((1, ())), {(0,): 1})
        self.assertEqual(terms((6, ())), {(0,) * 6: 1})
        self.assertEqual(terms(TWO), {(1, 0): 1, (0, 1): -1})
        self.assertEqual(terms(PATH), {(1, 1, 0): 1, (1, 0, 1): -1, (0, 2, 0): -1, (0, 1, 1): 1})
        due = {(2, 1, 0): 1, (2, 0, 1): -1, (1, 2, 0): -1, (1, 0, 2): 1, (0, 2, 1): 1, (0, 1, 2): -1}
        self.assertEqual(terms(TRIANGLE), due)

    def test_multiplied_out(self):
        for web in asked() + [TEN, FULL_OF_FIVE, TWO_TO_FOUR, (6, ALL_TIES[5:])]:
            told = terms(web)
            self.assertIs(type(told), dict)
            self.assertEqual(told, plain.multiplied(web), web)
            for powers, number in told.items():
                self.assertEqual([type(powers), type(number)], [tuple, int])
                self.assertNotEqual(number, 0)

    def test_all_tied_has_a_term_for_each_order_of_places(self):
        self.assertEqual(len(terms(FULL_OF_FIVE)), 120)
        for powers, number in terms(FULL_OF_FIVE).items():
            self.assertEqual(sorted(powers), [0, 1, 2, 3, 4])
            self.assertIn(number, (1, -1))

    def test_worth_is_that_of_the_product(self):
        chance = random.Random(52)
        for web in asked():
            xs = [chance.randint(-9, 9) for place in range(web[0])]
            due = 1
            for a, b in web[1]:
                due *= xs[a] - xs[b]
            self.assertEqual(worth(terms(web), xs), due)

    def test_the_askers_own(self):
        for web in (TWO, PATH, (1, ())):
            first = terms(web)
            due = dict(first)
            first.clear()
            first[(9,) * web[0]] = 5
            self.assertEqual(terms(web), due)
            self.assertEqual(term(web, (9,) * web[0]), 0)
            self.assertIsNotNone(term_for(web, (8,) * web[0]))


class Numbers(unittest.TestCase):
    def test_each_of_small_webs(self):
        for web in plain.all_webs(3):
            due = plain.multiplied(web)
            for powers in product(range(5), repeat=3):
                told = term(web, powers)
                self.assertIs(type(told), int)
                self.assertEqual(told, due.get(powers, 0), (web, powers))

    def test_each_term(self):
        for web in asked(60) + [TEN]:
            for powers, number in plain.multiplied(web).items():
                self.assertEqual(term(web, powers), number)

    def test_none(self):
        self.assertEqual(term(TRIANGLE, (1, 1, 1)), 0)
        self.assertEqual(term(TRIANGLE, (0, 0, 0)), 0)
        self.assertEqual(term(TRIANGLE, (3, 0, 0)), 0)
        self.assertEqual(term(TRIANGLE, (BIG, BIG, BIG)), 0)
        self.assertEqual(term((1, ()), (1,)), 0)
        self.assertEqual(term((1, ()), (0,)), 1)

    def test_no_powers(self):
        for thing in BAD_POWERS:
            with self.subTest(thing), self.assertRaises(NoNumber):
                term(TRIANGLE, thing)
            with self.subTest(thing), self.assertRaises(NoNumber):
                runs_many(TRIANGLE, thing)
        for places in range(1, 7):
            for length in range(9):
                if length == places:
                    self.assertEqual(term((places, ()), (0,) * length), 1)
                else:
                    self.assertRaises(NoNumber, term, (places, ()), (0,) * length)
                    self.assertRaises(NoNumber, runs_many, (places, ()), (0,) * length)


class Papers(unittest.TestCase):
    def test_each_powers(self):
        for web in plain.all_webs(3):
            due = plain.multiplied(web)
            for sizes in product(range(4), repeat=3):
                papers = [powers for powers in sorted(due) if all(p < s for p, s in zip(powers, sizes))]
                for powers in product(range(4), repeat=3):
                    self.assertIs(is_term_paper(powers, web, sizes), powers in papers, (web, sizes, powers))
                self.assertEqual(term_for(web, sizes), papers[0] if papers else None)

    def test_first_of_all(self):
        chance = random.Random(53)
        found = 0
        for web in asked(240) + [TEN, FULL_OF_FIVE, TWO_TO_FOUR]:
            sizes = tuple(chance.choice((1, 2, 2, 3, 3, 4, 5, 8)) for place in range(web[0]))
            papers = [
                powers for powers in sorted(plain.multiplied(web)) if all(p < s for p, s in zip(powers, sizes))
            ]
            self.assertEqual(term_for(web, sizes), papers[0] if papers else None, (web, sizes))
            found += len(papers) > 1
            for powers in papers:
                self.assertIs(is_term_paper(powers, web, sizes), True)
        self.assertGreater(found, 50)

    def test_by_hand(self):
        self.assertIsNone(term_for((1, ()), (0,)))
        self.assertEqual(term_for((1, ()), (1,)), (0,))
        self.assertEqual(term_for(TWO, (8, 8)), (0, 1))
        self.assertEqual(term_for(TWO, (2, 1)), (1, 0))
        self.assertIsNone(term_for(TWO, (1, 1)))
        self.assertIsNone(term_for(TRIANGLE, (2, 2, 2)))
        self.assertEqual(term_for((4, ((0, 1), (0, 3), (1, 2), (2, 3))), (2,) * 4), (1,) * 4)
        self.assertEqual(term_for(TEN, (8,) * 6), min(plain.multiplied(TEN)))
        self.assertIs(is_term_paper((0, 0, 0, 0, 0, 0), (6, ()), (1,) * 6), True)
        self.assertIs(is_term_paper((0, 0, 0, 0, 0, 0), (6, ()), (1, 1, 1, 0, 1, 1)), False)

    def test_always_where_there_is_one(self):
        found = 0
        for places in (1, 2, 3, 4, 5):
            for web in plain.unlike_webs(places):
                for sizes in list(product(range(1, 4), repeat=places))[::2]:
                    if term_for(web, sizes) is not None:
                        found += order_for(web, sizes) is None
                        self.assertIs(always(web, sizes), True, (web, sizes))
        self.assertGreater(found, 10)

    def test_of_whatever_kind(self):
        for thing in BAD_POWERS:
            with self.subTest(thing):
                self.assertIs(is_term_paper(thing, PATH, (8, 8, 8)), False)
        self.assertIs(is_term_paper((1, 1, 0), PATH, (8, 8, 8)), True)
        self.assertIs(is_term_paper((1, True, 0), PATH, (8, 8, 8)), False)
        self.assertIs(is_term_paper((1, 1, False), PATH, (8, 8, 8)), False)
        self.assertIs(is_term_paper((BIG, BIG, BIG), PATH, (8, 8, 8)), False)


class Runs(unittest.TestCase):
    def test_by_hand(self):
        self.assertEqual(runs_many((1, ()), (0,)), (1, 0))
        self.assertEqual(runs_many((1, ()), (1,)), (0, 0))
        self.assertEqual(runs_many(TWO, (1, 0)), (1, 0))
        self.assertEqual(runs_many(TWO, (0, 1)), (0, 1))
        self.assertEqual(runs_many(TRIANGLE, (1, 1, 1)), (1, 1))
        self.assertEqual(runs_many(TRIANGLE, (2, 1, 0)), (1, 0))
        self.assertEqual(runs_many(TRIANGLE, (BIG, 0, 0)), (0, 0))
        self.assertEqual(runs_many((4, ((0, 1), (0, 3), (1, 2), (2, 3))), (1,) * 4), (0, 2))

    def test_all_gone_through(self):
        for web in asked(60) + [TEN, FULL_OF_FIVE]:
            for powers, counts in list(plain.runs(web).items())[::5]:
                self.assertEqual(runs_many(web, powers), counts, (web, powers))

    def test_each_powers_of_small_webs(self):
        for web in plain.all_webs(3):
            due = plain.runs(web)
            for powers in product(range(4), repeat=3):
                told = runs_many(web, powers)
                self.assertIs(type(told), tuple)
                self.assertEqual(told, due.get(powers, (0, 0)))
                self.assertEqual(term(web, powers), told[0] - told[1])

    def test_one_less_the_other_is_the_number(self):
        for web in asked(60):
            for powers in list(plain.runs(web))[::5]:
                even, odd = runs_many(web, powers)
                self.assertEqual(plain.multiplied(web).get(powers, 0), even - odd)


class Together(unittest.TestCase):
    def test_powers_come_to_as_many_as_ties(self):
        for web in asked():
            for powers in terms(web):
                self.assertEqual(sum(powers), len(web[1]))

    def test_with_all_alike(self):
        for web in asked():
            for x in (0, 1, 2, -3):
                self.assertEqual(worth(terms(web), [x] * web[0]), 0 if web[1] else 1)

    def test_a_term_paper_where_there_is_an_order(self):
        chance = random.Random(55)
        found = 0
        for web in asked(600):
            sizes = tuple(chance.choice((1, 2, 3, 4)) for place in range(web[0]))
            if order_for(web, sizes) is not None:
                found += 1
                self.assertIsNotNone(term_for(web, sizes), (web, sizes))
        self.assertGreater(found, 100)


class Refused(unittest.TestCase):
    def test_no_web_ahead_of_all_else(self):
        for web in BAD_WEBS:
            self.assertRaises(NoWeb, terms, web)
            for thing in ((1, 1), (0, 0, 0), None, [web]):
                self.assertRaises(NoWeb, term, web, thing)
                self.assertRaises(NoWeb, runs_many, web, thing)
                self.assertRaises(NoWeb, term_for, web, thing)
                self.assertRaises(NoWeb, is_term_paper, thing, web, thing)

    def test_then_no_sizes(self):
        for sizes in BAD_SIZES:
            for web in (TWO,) + GREAT_WEBS:
                self.assertRaises(NoSizes, term_for, web, sizes)
                for thing in ((1, 0), (0,) * 6, None, sizes):
                    self.assertRaises(NoSizes, is_term_paper, thing, web, sizes)

    def test_no_number_ahead_of_too_many(self):
        for web in GREAT_WEBS:
            for thing in BAD_POWERS + ((0,) * 5, (0,) * 7, (0, 0, 0, 0, 0, -1), (0, 0, 0, 0, 0, True), [0] * 6):
                self.assertRaises(NoNumber, term, web, thing)
                self.assertRaises(NoNumber, runs_many, web, thing)

    def test_eleven_ties_behind_all_else(self):
        for web in GREAT_WEBS:
            self.assertRaises(TooMany, terms, web)
            for powers in ((0,) * 6, (5, 4, 3, 2, 1, 0), (BIG,) * 6):
                self.assertRaises(TooMany, term, web, powers)
                self.assertRaises(TooMany, runs_many, web, powers)
            for sizes in ((0,) * 6, (8,) * 6):
                self.assertRaises(TooMany, term_for, web, sizes)
                for thing in ODD + ((0,) * 6, (5, 4, 3, 2, 1, 0)):
                    self.assertRaises(TooMany, is_term_paper, thing, web, sizes)

    def test_ten_ties_are_taken(self):
        for web in (TEN, (6, ALL_TIES[5:]), FULL_OF_FIVE):
            powers = min(terms(web))
            self.assertNotEqual(term(web, powers), 0)
            self.assertNotEqual(runs_many(web, powers), (0, 0))
            self.assertEqual(term_for(web, (8,) * web[0]), powers)
            self.assertIs(is_term_paper(powers, web, (8,) * web[0]), True)


if __name__ == "__main__":
    unittest.main()
