"""Promises 63 and 64: ranks, stable ones among some, tie choices of long lists."""

import random
import unittest
from itertools import combinations, product

from huelists.errors import NoLists, NoNumber, NoRanks, NoWeb, Short
from huelists.stable import is_stable, long_choice, stable_ones
from huelists.tielists import is_tie_choice, width
from tests import plain
from tests.kinds import ALL_TIES, BAD_HUES, BAD_WEBS, BIG, EIGHT, NINE, ODD, TWO

PATH = (3, ((0, 1), (1, 2)))
APART = (4, ((0, 1), (2, 3)))
STAR = (6, ((0, 1), (0, 2), (0, 3), (0, 4), (0, 5)))
STAR_AT_THE_END = (6, ((0, 5), (1, 5), (2, 5), (3, 5), (4, 5)))
RING_OF_FOUR = (4, ((0, 1), (0, 3), (1, 2), (2, 3)))
RING_OF_SIX = (6, ((0, 1), (0, 5), (1, 2), (2, 3), (3, 4), (4, 5)))
THREE_TO_THREE = (6, tuple(product((0, 1, 2), (3, 4, 5))))
NOT_TWO_SIDED = (
    (3, ((0, 1), (0, 2), (1, 2))), (5, ((0, 1), (0, 4), (1, 2), (2, 3), (3, 4))), (6, ALL_TIES),
    (6, ((3, 4), (3, 5), (4, 5))),
)

# What is no ranks of PATH, of whatever kind: its two ties have a place in common.
BAD_RANKS = tuple(thing for thing in ODD if thing != (0, BIG)) + (
    (), (0,), (0, 1, 2), (0, 0), (7, 7), (BIG, BIG), (0, -1), (-1, 0), (1, -BIG), (0, True), (False, 1), (True, 0),
    (False, True), (0, None), (0, "1"), ([0], 1), ((0,), (1,)), (0, {}), [0, 1], {0: 0, 1: 1}, "01", 0, 1, ((0, 1),),
)

# What is no some of PATH, of whatever kind.
BAD_SOME = ODD + (
    (1, 0), (0, 0), (1, 1), (0, 1, 1), (2,), (0, 2), (0, 1, 2), (-1, 0), (BIG,), (0, True), (False,), (False, 1),
    (True,), (None,), ("0",), (0, "1"), ((0,),), ((0, 1),), [0, 1], [], [0], {}, {0: 1}, "", "01", 0, 1,
)


def some_ranks(web, chance, most):
    """Ranks of the web, each below most, at random."""
    ranks = []
    for at, tie in enumerate(web[1]):
        barred = [rank for rank, other in zip(ranks, web[1]) if plain.meet(tie, other)]
        rank = chance.randrange(most)
        while rank in barred:
            rank = chance.randrange(most)
        ranks.append(rank)
    return tuple(ranks)


def asked(many=120, seed=63):
    """Two-sided webs, with ranks and some."""
    chance = random.Random(seed)
    for web in plain.two_sided_webs(many, seed) + [RING_OF_SIX, THREE_TO_THREE, STAR, STAR_AT_THE_END] * 5:
        numbers = range(len(web[1]))
        ranks = some_ranks(web, chance, chance.choice((10, 20, 10 ** 30)))
        yield web, ranks, tuple(numbers)
        yield web, ranks, tuple(sorted(chance.sample(numbers, chance.randint(0, len(numbers)))))
        yield web, ranks, ()


def look(row, web, ranks, some):
    """Whether the row, of numbers among some, is stable ones: by a look at every tie."""
    ties = web[1]
    first = plain.first_parts(web)[0]
    if any(plain.meet(ties[one], ties[other]) for one, other in combinations(row, 2)):
        return False
    for number in some:
        if number not in row:
            reasons = 0
            for other in row:
                for place in set(ties[number]) & set(ties[other]):
                    above = ranks[other] > ranks[number]
                    reasons += above if place in first else not above
            if not reasons:
                return False
    return True


class Stable(unittest.TestCase):
    def test_each_row_of_some(self):
        found = 0
        for web, ranks, some in asked():
            for many in range(min(4, len(some) + 1)):
                for row in combinations(some, many):
                    due = look(row, web, ranks, some)
                    self.assertIs(is_stable(row, web, ranks, some), due, (row, web, ranks, some))
                    found += due
        self.assertGreater(found, 300)

    def test_by_hand(self):
        # At place 1, of the other part, the lesser rank goes.
        self.assertIs(is_stable((0,), PATH, (0, 1), (0, 1)), True)
        self.assertIs(is_stable((1,), PATH, (0, 1), (0, 1)), False)
        self.assertIs(is_stable((1,), PATH, (1, 0), (0, 1)), True)
        # At place 0, of the first part, the greater one.
        self.assertIs(is_stable((4,), STAR, (0, 1, 2, 3, 4), (0, 1, 2, 3, 4)), True)
        self.assertIs(is_stable((0,), STAR, (0, 1, 2, 3, 4), (0, 1, 2, 3, 4)), False)
        self.assertIs(is_stable((0,), STAR_AT_THE_END, (0, 1, 2, 3, 4), (0, 1, 2, 3, 4)), True)
        self.assertIs(is_stable((3,), STAR, (0, 1, 2, 3, 4), (0, 1, 3)), True)
        self.assertIs(is_stable((0, 1), APART, (5, 5), (0, 1)), True)
        self.assertIs(is_stable((0,), APART, (5, 5), (0, 1)), False)
        # Of four ties in a ring both pairs may be stable.
        self.assertIs(is_stable((0, 3), RING_OF_FOUR, (0, 1, 1, 0), (0, 1, 2, 3)), True)
        self.assertIs(is_stable((1, 2), RING_OF_FOUR, (0, 1, 1, 0), (0, 1, 2, 3)), True)

    def test_not_among_some_not_rising_or_twice(self):
        self.assertIs(is_stable((), PATH, (0, 1), ()), True)
        self.assertIs(is_stable((0,), PATH, (0, 1), ()), False)
        self.assertIs(is_stable((0,), PATH, (0, 1), (1,)), False)
        self.assertIs(is_stable((), PATH, (0, 1), (1,)), False)
        self.assertIs(is_stable((0, 1), PATH, (0, 1), (0, 1)), False)
        self.assertIs(is_stable((1, 0), APART, (0, 1), (0, 1)), False)
        self.assertIs(is_stable((0, 0), APART, (0, 1), (0,)), False)
        self.assertIs(is_stable((0, 0, 1), APART, (0, 1), (0, 1)), False)
        self.assertIs(is_stable((0, 2), APART, (0, 1), (0, 1)), False)

    def test_of_whatever_kind(self):
        for thing in BAD_SOME:
            with self.subTest(thing):
                self.assertIs(is_stable(thing, APART, (3, 4), (0, 1)), False)
                self.assertIs(is_stable(thing, PATH, (0, 1), ()), False)
        for thing in ((False, 1), (0, True), (False, True), [0, 1], {0: 0, 1: 1}, ((0, 1),), "01"):
            self.assertIs(is_stable(thing, APART, (3, 4), (0, 1)), False)
        self.assertIs(is_stable((True,), APART, (3, 4), (1,)), False)
        self.assertIs(is_stable((1,), APART, (3, 4), (1,)), True)

    def test_without_ties(self):
        for places in range(1, 7):
            self.assertIs(is_stable((), (places, ()), (), ()), True)
            self.assertIs(is_stable((0,), (places, ()), (), ()), False)
            self.assertEqual(stable_ones((places, ()), (), ()), ())


class StableOnes(unittest.TestCase):
    def test_always_such(self):
        for web, ranks, some in asked(600, 64):
            told = stable_ones(web, ranks, some)
            self.assertIs(type(told), tuple)
            self.assertEqual(list(told), sorted(set(told)))
            self.assertLessEqual(set(told), set(some))
            self.assertTrue(look(told, web, ranks, some), (web, ranks, some))
            self.assertIs(is_stable(told, web, ranks, some), True)
            self.assertEqual(stable_ones(web, ranks, some), told)

    def test_all_ranks_of_a_ring_of_four(self):
        for ranks in product(range(4), repeat=4):
            if ranks[0] not in ranks[1:3] and ranks[3] not in ranks[1:3]:
                for many in range(5):
                    for some in combinations(range(4), many):
                        told = stable_ones(RING_OF_FOUR, ranks, some)
                        self.assertTrue(look(told, RING_OF_FOUR, ranks, some), (ranks, some))

    def test_ranks_of_thirty_figures(self):
        ranks = (BIG, BIG - 1, BIG - 2, BIG - 3, BIG - 4)
        self.assertEqual(stable_ones(STAR, ranks, (0, 1, 2, 3, 4)), (0,))
        self.assertEqual(stable_ones(STAR, ranks, (2, 3, 4)), (2,))
        self.assertEqual(stable_ones(STAR_AT_THE_END, ranks, (0, 1, 2, 3, 4)), (4,))
        self.assertEqual(stable_ones(STAR_AT_THE_END, ranks, (0, 1)), (1,))

    def test_by_hand(self):
        self.assertEqual(stable_ones(PATH, (0, 1), (0, 1)), (0,))
        self.assertEqual(stable_ones(PATH, (1, 0), (0, 1)), (1,))
        self.assertEqual(stable_ones(PATH, (1, 0), (0,)), (0,))
        self.assertEqual(stable_ones(APART, (0, 0), (0, 1)), (0, 1))
        self.assertEqual(stable_ones(APART, (0, 0), ()), ())


class Ranks(unittest.TestCase):
    def test_such_as_are(self):
        for web, ranks in ((PATH, (0, 1)), (PATH, (BIG, 0)), (APART, (0, 0)), (APART, (BIG, BIG)), (TWO, (0,)),
                           (RING_OF_FOUR, (0, 1, 1, 0)), ((1, ()), ())):
            self.assertIs(is_stable(stable_ones(web, ranks, ()), web, ranks, ()), True)

    def test_such_as_are_none(self):
        for ranks in BAD_RANKS:
            with self.subTest(ranks):
                self.assertRaises(NoRanks, stable_ones, PATH, ranks, (0, 1))
                self.assertRaises(NoRanks, is_stable, (0,), PATH, ranks, (0, 1))
        for ranks in ((0, 1, 2, 3, 0), (5, 5, 1, 2, 3), (0, 1, 2, 3), (0, 1, 2, 3, 4, 5), [0, 1, 2, 3, 4]):
            self.assertRaises(NoRanks, stable_ones, STAR, ranks, ())
            self.assertRaises(NoRanks, stable_ones, STAR_AT_THE_END, ranks, ())

    def test_without_ties(self):
        for ranks in ODD + ((0,), 0):
            self.assertRaises(NoRanks, stable_ones, (3, ()), ranks, ())

    def test_of_webs_that_are_not_two_sided(self):
        for web in NOT_TWO_SIDED:
            for ranks in (tuple(range(len(web[1]))), (), None):
                for some in ((), (0,), None, [0]):
                    self.assertRaises(NoRanks, stable_ones, web, ranks, some)
                    self.assertRaises(NoRanks, is_stable, (), web, ranks, some)


class Some(unittest.TestCase):
    def test_such_as_are_none(self):
        for some in BAD_SOME:
            with self.subTest(some):
                self.assertRaises(NoNumber, stable_ones, PATH, (0, 1), some)
                for thing in ((), (0,), None, some):
                    self.assertRaises(NoNumber, is_stable, thing, PATH, (0, 1), some)
        for some in ((0,), (5,), None, []):
            self.assertRaises(NoNumber, stable_ones, (1, ()), (), some)
        self.assertRaises(NoNumber, stable_ones, STAR, (0, 1, 2, 3, 4), (0, 5))


class LongChoice(unittest.TestCase):
    def is_told(self, web, lists):
        told = long_choice(web, lists)
        self.assertIs(type(told), tuple)
        self.assertIs(is_tie_choice(told, web, lists), True, (web, lists))
        self.assertEqual(long_choice(web, lists), told)

    def test_as_long_as_the_width_and_longer(self):
        chance = random.Random(65)
        for web in plain.two_sided_webs(300, 66) + [RING_OF_SIX, THREE_TO_THREE, STAR, STAR_AT_THE_END] * 20:
            wide = width(web)
            for hues in (wide, wide + 1, 8, 30, 100):
                self.is_told(web, plain.some_tie_lists(web, chance, max(hues, wide), wide, wide))
                self.is_told(web, plain.some_tie_lists(web, chance, max(hues, wide), 8, wide))

    def test_all_two_sided_webs_of_four(self):
        chance = random.Random(67)
        for web in plain.all_webs(4):
            if plain.first_parts(web):
                wide = width(web)
                for hues in (wide, wide + 1, 2 * wide):
                    self.is_told(web, plain.some_tie_lists(web, chance, hues, wide, wide))

    def test_all_lists_of_a_ring_of_four(self):
        for lists in product(tuple(combinations(range(4), 2)), repeat=4):
            self.is_told(RING_OF_FOUR, lists)

    def test_by_hand(self):
        self.assertEqual(long_choice((1, ()), ()), ())
        self.assertEqual(long_choice((6, ()), ()), ())
        self.assertEqual(long_choice(TWO, ((99,),)), (99,))
        self.assertEqual(long_choice(APART, ((3,), (3,))), (3, 3))
        self.assertEqual(sorted(long_choice(STAR, ((0, 1, 2, 3, 4),) * 5)), [0, 1, 2, 3, 4])

    def test_short(self):
        self.assertRaises(Short, long_choice, TWO, ((),))
        for web in (PATH, STAR, STAR_AT_THE_END, RING_OF_FOUR, RING_OF_SIX, THREE_TO_THREE):
            wide = width(web)
            many = len(web[1])
            for at in range(many):
                for short in range(wide):
                    lists = [EIGHT] * many
                    lists[at] = tuple(range(short))
                    self.assertRaises(Short, long_choice, web, tuple(lists))
                lists[at] = tuple(range(wide))
                self.is_told(web, tuple(lists))

    def test_short_even_where_there_is_a_tie_choice(self):
        self.assertRaises(Short, long_choice, PATH, ((0,), (1,)))
        self.assertRaises(Short, long_choice, STAR, ((0,), (1,), (2,), (3,), (4,)))


class Refused(unittest.TestCase):
    def test_no_web_ahead_of_all_else(self):
        for web in BAD_WEBS:
            for thing in ((), (0,), ((0,),), None, [web]):
                self.assertRaises(NoWeb, is_stable, thing, web, thing, thing)
                self.assertRaises(NoWeb, stable_ones, web, thing, thing)
                self.assertRaises(NoWeb, long_choice, web, thing)

    def test_then_no_ranks(self):
        for ranks in BAD_RANKS:
            for some in BAD_SOME[::5]:
                self.assertRaises(NoRanks, stable_ones, PATH, ranks, some)
                self.assertRaises(NoRanks, is_stable, (0,), PATH, ranks, some)
        for web in NOT_TWO_SIDED:
            for lists in ODD + ((), ((),) * len(web[1]), (EIGHT,) * len(web[1]), (NINE,) * len(web[1])):
                self.assertRaises(NoRanks, long_choice, web, lists)

    def test_then_no_lists_then_short(self):
        for hues in BAD_HUES:
            for other in ((), (0,), EIGHT):
                self.assertRaises(NoLists, long_choice, PATH, (hues, other))
                self.assertRaises(NoLists, long_choice, PATH, (other, hues))
        for lists in ODD + ((), ((),), ((),) * 3, [(0, 1), (0, 1)], (EIGHT,) * 3, 0, "01"):
            self.assertRaises(NoLists, long_choice, PATH, lists)
        for lists in (((), ()), ((0,), (0, 1)), (EIGHT, (5,))):
            self.assertRaises(Short, long_choice, PATH, lists)


if __name__ == "__main__":
    unittest.main()
