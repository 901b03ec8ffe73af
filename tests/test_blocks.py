"""Promises 91 to 94: blocks, which of them are plain, and sizes as many as ties."""

import random
import unittest
from itertools import product

from huelists.always import always
from huelists.blocks import always_near, blocks, near_bar, near_sizes, plain_blocks
from huelists.changes import pieces
from huelists.choices import choices_many, first_choice
from huelists.errors import NoWeb
from huelists.orders import order_for
from huelists.webs import are_lists, are_sizes, sizes_of
from tests import plain
from tests.kinds import ALL_TIES, BAD_WEBS, TWO

ONE = (1, ())
PATH = (3, ((0, 1), (1, 2)))
TREE = (6, ((0, 2), (1, 2), (2, 3), (3, 4), (3, 5)))
TRIANGLE = (3, ((0, 1), (0, 2), (1, 2)))
RING_OF_FOUR = (4, ((0, 1), (0, 3), (1, 2), (2, 3)))
RING_OF_FIVE = (5, ((0, 1), (0, 4), (1, 2), (2, 3), (3, 4)))
RING_OF_SIX = (6, ((0, 1), (0, 5), (1, 2), (2, 3), (3, 4), (4, 5)))
BOW = (5, ((0, 1), (0, 2), (0, 3), (0, 4), (1, 2), (3, 4)))
FOUR_AND_THREE = (6, ((0, 1), (0, 3), (1, 2), (2, 3), (3, 4), (3, 5), (4, 5)))
# Two rings of three that share a tie: all four places are one block, and it is not plain.
SHARED_TIE = (4, ((0, 1), (0, 2), (1, 2), (1, 3), (2, 3)))
TWO_TRIANGLES = (6, ((0, 1), (0, 2), (1, 2), (3, 4), (3, 5), (4, 5)))
BRIDGED = (6, ((0, 1), (0, 2), (1, 2), (2, 3), (3, 4), (3, 5), (4, 5)))
FULL = (6, ALL_TIES)


def webs():
    small = [web for places in (1, 2, 3, 4) for web in plain.all_webs(places)]
    return small + plain.unlike_webs(5) + plain.some_webs(120, 91, least=5, most_ties=8)


class Blocks(unittest.TestCase):
    def test_by_all_rings(self):
        for web in webs() + plain.some_webs(30, 92, least=6):
            told = blocks(web)
            self.assertIs(type(told), list)
            self.assertEqual({type(block) for block in told}, {tuple})
            self.assertEqual(told, plain.blocks(web), web)

    def test_each_tie_is_in_one(self):
        for web in webs():
            told = blocks(web)
            for a, b in web[1]:
                self.assertEqual(sum(a in block and b in block for block in told), 1)
            for place in range(web[0]):
                self.assertEqual((place,) in told, not plain.tied(web, place))

    def test_by_hand(self):
        self.assertEqual(blocks(ONE), [(0,)])
        self.assertEqual(blocks((6, ())), [(0,), (1,), (2,), (3,), (4,), (5,)])
        self.assertEqual(blocks(TWO), [(0, 1)])
        self.assertEqual(blocks(PATH), [(0, 1), (1, 2)])
        self.assertEqual(blocks(TREE), [(0, 2), (1, 2), (2, 3), (3, 4), (3, 5)])
        self.assertEqual(blocks(RING_OF_FIVE), [(0, 1, 2, 3, 4)])
        self.assertEqual(blocks(BOW), [(0, 1, 2), (0, 3, 4)])
        self.assertEqual(blocks(FOUR_AND_THREE), [(0, 1, 2, 3), (3, 4, 5)])
        self.assertEqual(blocks(SHARED_TIE), [(0, 1, 2, 3)])
        self.assertEqual(blocks(BRIDGED), [(0, 1, 2), (2, 3), (3, 4, 5)])
        self.assertEqual(blocks(FULL), [(0, 1, 2, 3, 4, 5)])
        self.assertEqual(blocks((6, ((0, 4), (0, 5), (1, 2), (4, 5)))), [(0, 4, 5), (1, 2), (3,)])

    def test_new_lists_each_time(self):
        for web in (ONE, BOW, FULL, (6, ())):
            for function in (blocks, plain_blocks):
                first = function(web)
                due = list(first)
                self.assertIsNot(function(web), first)
                first.clear()
                first.append("mine")
                self.assertEqual(function(web), due)


class PlainBlocks(unittest.TestCase):
    def test_as_the_document_tells(self):
        for web in webs():
            told = plain_blocks(web)
            self.assertIs(type(told), list)
            self.assertEqual({type(truth) for truth in told}, {bool})
            self.assertEqual(told, [plain.is_plain_block(web, block) for block in plain.blocks(web)], web)

    def test_by_hand(self):
        self.assertEqual(plain_blocks(ONE), [True])
        self.assertEqual(plain_blocks((6, ())), [True] * 6)
        self.assertEqual(plain_blocks(TREE), [True] * 5)
        for places in range(1, 7):
            self.assertEqual(plain_blocks((places, plain.pairs(places))), [True])
        self.assertEqual(plain_blocks(RING_OF_FIVE), [True])
        self.assertEqual(plain_blocks(RING_OF_FOUR), [False])
        self.assertEqual(plain_blocks(RING_OF_SIX), [False])
        self.assertEqual(plain_blocks(SHARED_TIE), [False])
        self.assertEqual(plain_blocks(BOW), [True, True])
        self.assertEqual(plain_blocks(FOUR_AND_THREE), [False, True])
        self.assertEqual(plain_blocks(BRIDGED), [True, True, True])
        # A ring of five with a tie across is no ring alone.
        self.assertEqual(plain_blocks((5, ((0, 1), (0, 2), (0, 4), (1, 2), (2, 3), (3, 4)))), [False])


class NearSizes(unittest.TestCase):
    def test_number_of_near_places(self):
        for web in webs():
            told = near_sizes(web)
            self.assertIs(are_sizes(told, web), True)
            self.assertEqual(told, tuple(len(plain.tied(web, place)) for place in range(web[0])))

    def test_by_hand(self):
        self.assertEqual(near_sizes(ONE), (0,))
        self.assertEqual(near_sizes(PATH), (1, 2, 1))
        self.assertEqual(near_sizes(BOW), (4, 2, 2, 2, 2))
        self.assertEqual(near_sizes(FULL), (5,) * 6)


class AlwaysNear(unittest.TestCase):
    def test_as_always_tells(self):
        found = {True: 0, False: 0}
        for web in [web for web in webs() if web[0] < 6]:
            told = always_near(web)
            self.assertIs(told, always(web, near_sizes(web)), web)
            found[told] += 1
        self.assertGreater(min(found.values()), 10)

    def test_each_piece_has_a_block_that_is_not_plain(self):
        for web in webs():
            others = [block for block, truth in zip(plain.blocks(web), plain_blocks(web)) if not truth]
            due = all(any(set(block) <= set(piece) for block in others) for piece in plain.pieces(web))
            self.assertIs(always_near(web), due, web)

    def test_by_hand(self):
        for web in (RING_OF_FOUR, RING_OF_SIX, SHARED_TIE, FOUR_AND_THREE):
            self.assertIs(always_near(web), True, web)
        for web in (ONE, (6, ()), TWO, TREE, TRIANGLE, RING_OF_FIVE, BOW, TWO_TRIANGLES, BRIDGED, FULL,
                    (5, RING_OF_FOUR[1]), (6, RING_OF_FOUR[1] + ((4, 5),))):
            self.assertIs(always_near(web), False, web)

    def test_six_places_with_lists_by_chance(self):
        chance = random.Random(93)
        asked = [web for web in webs() + [RING_OF_SIX, FOUR_AND_THREE] if web[0] == 6 and always_near(web)]
        self.assertGreater(len(asked), 10)
        for web in asked:
            for number in range(60):
                hues = chance.choice((5, 6))
                lists = tuple(tuple(sorted(chance.sample(range(hues), size))) for size in near_sizes(web))
                self.assertIsNotNone(first_choice(web, lists), (web, lists))

    def test_all_lists_of_a_ring_of_six(self):
        pairs_of_hues = plain.pairs(3)
        for lists in product(pairs_of_hues, repeat=6):
            self.assertTrue(plain.has_choice(RING_OF_SIX, lists))


class NearBar(unittest.TestCase):
    def test_lists_of_these_sizes_without_a_choice(self):
        barred = 0
        for web in webs():
            told = near_bar(web)
            self.assertEqual(told is None, always_near(web), web)
            if told is not None:
                barred += 1
                self.assertIs(are_lists(told, web), True)
                self.assertEqual(sizes_of(web, told), near_sizes(web))
                self.assertFalse(plain.has_choice(web, told), (web, told))
                self.assertEqual(choices_many(web, told), 0)
                self.assertEqual(near_bar(web), told)
        self.assertGreater(barred, 50)

    def test_by_hand(self):
        self.assertEqual(near_bar(ONE), ((),))
        self.assertEqual(near_bar((3, ())), ((), (), ()))
        self.assertIsNone(near_bar(RING_OF_FOUR))
        self.assertIsNone(near_bar(RING_OF_SIX))
        for web in (TREE, RING_OF_FIVE, BOW, TWO_TRIANGLES, BRIDGED, FULL, (5, RING_OF_FOUR[1])):
            self.assertFalse(plain.has_choice(web, near_bar(web)))

    def test_six_places_of_each_kind(self):
        for web in plain.some_webs(120, 94, least=6):
            told = near_bar(web)
            if told is not None:
                self.assertEqual(sizes_of(web, told), near_sizes(web))
                self.assertFalse(plain.has_choice(web, told))


class OneMore(unittest.TestCase):
    def test_somewhere_greater_in_each_piece(self):
        chance = random.Random(95)
        for web in webs():
            sizes = list(near_sizes(web))
            for piece in pieces(web):
                sizes[chance.choice(piece)] += 1
            self.assertIsNotNone(order_for(web, tuple(sizes)))
            if web[0] < 6:
                self.assertIs(always(web, tuple(sizes)), True, (web, sizes))

    def test_each_place_of_one_piece(self):
        for web in [web for web in webs() if web[0] < 6 and len(pieces(web)) == 1]:
            for place in range(web[0]):
                sizes = list(near_sizes(web))
                sizes[place] += 1
                self.assertIs(always(web, tuple(sizes)), True)

    def test_not_where_a_piece_is_left_out(self):
        sizes = list(near_sizes(TWO_TRIANGLES))
        sizes[0] += 1
        self.assertFalse(plain.has_choice(TWO_TRIANGLES, ((0, 1, 2),) + ((0, 1),) * 5))
        self.assertIsNone(order_for(TWO_TRIANGLES, tuple(sizes)))


class Refused(unittest.TestCase):
    def test_no_web(self):
        for web in BAD_WEBS:
            for function in (blocks, plain_blocks, near_sizes, always_near, near_bar):
                with self.subTest(web):
                    self.assertRaises(NoWeb, function, web)


if __name__ == "__main__":
    unittest.main()
