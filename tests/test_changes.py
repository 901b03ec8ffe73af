"""Promises 81 to 84: a hue taken, hues named anew, pieces, a place left out, what follows for sure."""

import random
import unittest
from itertools import product

from huelists.changes import named, pieces, sure, taken, without
from huelists.choices import choices_many
from huelists.errors import NoLists, NoNumber, NoWeb
from huelists.webs import are_lists, is_web
from tests import plain
from tests.kinds import ALL_TIES, BAD_HUES, BAD_LISTS, BAD_PLACES, BAD_WEBS, BIG, EIGHT, ODD, TWO

PATH = (3, ((0, 1), (1, 2)))
TRIANGLE = (3, ((0, 1), (0, 2), (1, 2)))
RING_OF_FOUR = (4, ((0, 1), (0, 3), (1, 2), (2, 3)))
FULL = (6, ALL_TIES)
ALL_HUES = tuple(range(100))

# What is no hue of a list of hues from 0 to 7 and 99, of whatever kind.
BAD_HUES_TO_TAKE = ODD + (8, 9, 98, 100, 10 ** 29, (), (0,), (0, 1), [0], {0: 1})


def asked(many=120, seed=81):
    """Webs, with lists."""
    chance = random.Random(seed)
    for web in plain.some_webs(many, seed):
        yield web, plain.some_lists(web, chance, chance.randint(2, 5), chance.randint(1, 4))


def renamed(web, lists, names):
    return tuple(tuple(sorted(names[hue] for hue in hues)) for hues in lists)


def greatest(lists):
    return max((hue for hues in lists for hue in hues), default=-1)


def alone(web, lists, places):
    """The web of these places alone, and their lists."""
    ties = tuple((places.index(a), places.index(b)) for a, b in web[1] if a in places and b in places)
    return (len(places), ties), tuple(lists[place] for place in places)


def followed(web, lists):
    """Steps and lists as the document tells it."""
    steps, left = [], [list(hues) for hues in lists]
    while all(left):
        able = [place for place in range(web[0]) if len(left[place]) == 1 and place not in dict(steps)]
        if not able:
            break
        place, hue = able[0], left[able[0]][0]
        steps.append((place, hue))
        for other in plain.tied(web, place):
            if hue in left[other]:
                left[other].remove(hue)
    return steps, tuple(tuple(hues) for hues in left)


class Taken(unittest.TestCase):
    def test_each_hue_of_each_place(self):
        for web, lists in asked():
            for place in range(web[0]):
                for hue in lists[place]:
                    told = taken(web, lists, place, hue)
                    self.assertIs(are_lists(told, web), True)
                    self.assertEqual(told[place], (hue,))
                    for other in set(range(web[0])) - {place}:
                        if other in plain.tied(web, place):
                            self.assertEqual(told[other], tuple(one for one in lists[other] if one != hue))
                        else:
                            self.assertEqual(told[other], lists[other])

    def test_choices_left_are_those_that_have_it(self):
        for web, lists in asked(seed=82):
            for place in range(web[0]):
                for hue in lists[place]:
                    due = [choice for choice in plain.choices(web, lists) if choice[place] == hue]
                    self.assertEqual(plain.choices(web, taken(web, lists, place, hue)), due)

    def test_by_hand(self):
        self.assertEqual(taken(PATH, ((0, 1), (0, 1, 2), (0,)), 1, 0), ((1,), (0,), ()))
        self.assertEqual(taken(PATH, ((0, 1), (0, 1, 2), (0,)), 0, 0), ((0,), (1, 2), (0,)))
        self.assertEqual(taken(PATH, ((0, 1), (0, 1, 2), (0,)), 2, 0), ((0, 1), (1, 2), (0,)))
        self.assertEqual(taken((1, ()), (EIGHT,), 0, 99), ((99,),))
        self.assertEqual(taken(FULL, (EIGHT,) * 6, 3, 0), (EIGHT[1:],) * 3 + ((0,),) + (EIGHT[1:],) * 2)
        self.assertEqual(taken(TWO, ((5,), (5,)), 0, 5), ((5,), ()))

    def test_no_place_or_no_hue_of_its_list(self):
        lists = (EIGHT,) * 6
        for thing in BAD_PLACES:
            with self.subTest(thing):
                self.assertRaises(NoNumber, taken, FULL, lists, thing, 0)
                self.assertRaises(NoNumber, taken, FULL, lists, thing, thing)
                self.assertRaises(NoNumber, taken, FULL, lists, thing, None)
        for thing in BAD_HUES_TO_TAKE:
            with self.subTest(thing):
                self.assertRaises(NoNumber, taken, FULL, lists, 0, thing)
                self.assertRaises(NoNumber, taken, FULL, ((),) * 6, 5, thing)
        self.assertRaises(NoNumber, taken, TWO, ((0,), (1,)), 0, 1)
        self.assertRaises(NoNumber, taken, TWO, ((0,), (1,)), 2, 0)
        self.assertRaises(NoNumber, taken, TWO, ((0, 1), (1,)), False, 0)
        self.assertRaises(NoNumber, taken, TWO, ((0, 1), (1,)), True, 1)
        self.assertRaises(NoNumber, taken, TWO, ((0, 1), (1,)), 0, True)
        self.assertRaises(NoNumber, taken, TWO, ((0, 1), (1,)), 0, False)
        self.assertRaises(NoNumber, taken, TWO, ((0, 1), (1,)), -1, 1)


class Named(unittest.TestCase):
    def test_by_chance(self):
        chance = random.Random(83)
        for web, lists in asked(seed=83):
            names = tuple(chance.sample(range(100), greatest(lists) + 1))
            told = named(web, lists, names)
            self.assertIs(are_lists(told, web), True)
            self.assertEqual(told, renamed(web, lists, names))
            self.assertEqual(choices_many(web, told), len(plain.choices(web, lists)))

    def test_by_hand(self):
        self.assertEqual(named(TWO, ((0, 1), (2,)), (5, 3, 0)), ((3, 5), (0,)))
        self.assertEqual(named(TWO, ((0, 2), ()), (7, 8, 6)), ((6, 7), ()))
        self.assertEqual(named(TWO, ((), ()), ()), ((), ()))
        self.assertEqual(named((1, ()), ((99,),), ALL_HUES[::-1]), ((0,),))
        self.assertEqual(named((1, ()), (EIGHT,), ALL_HUES), (EIGHT,))
        self.assertEqual(named((1, ()), ((0,),), (99,)), ((99,),))

    def test_too_few_or_too_many(self):
        for most in (0, 1, 5, 50, 98):
            lists = ((most,), ())
            for many in (0, 1, 2, most, most + 1, most + 2, 100):
                if many == most + 1:
                    self.assertEqual(named(TWO, lists, ALL_HUES[:many][::-1]), ((0,), ()))
                else:
                    self.assertRaises(NoNumber, named, TWO, lists, ALL_HUES[:many])
        self.assertRaises(NoNumber, named, (1, ()), ((99,),), ALL_HUES[:99])
        self.assertRaises(NoNumber, named, (1, ()), ((99,),), ALL_HUES + (0,))
        for names in ODD + ((0,), (1, 2), 0, "0"):
            self.assertRaises(NoNumber, named, TWO, ((), ()), names)

    def test_what_is_no_such_tuple(self):
        bad = ODD + (
            (0, 0), (99, 99), (0, 100), (100, 0), (0, -1), (-1, 0), (0, BIG), (-BIG, 0), (0, True), (False, 1),
            (True, False), (False, 0), (0, None), (0, "1"), ("0", "1"), ([0], 1), (0, (1,)), ((0,), (1,)), ({}, 0),
            [0, 1], {0: 0, 1: 1}, "01", 0, 1, (), (0,), (0, 1, 2), ((0, 1),),
        )
        for names in bad:
            with self.subTest(names), self.assertRaises(NoNumber):
                named(TWO, ((0, 1), (1,)), names)
        # Hues below the greatest are named, too, where no list has them.
        self.assertRaises(NoNumber, named, TWO, ((2,), (2,)), (5, 5, 6))
        self.assertRaises(NoNumber, named, TWO, ((2,), (2,)), (6,))
        self.assertEqual(named(TWO, ((2,), (2,)), (4, 5, 6)), ((6,), (6,)))


class Pieces(unittest.TestCase):
    def test_as_ties_join(self):
        for web in plain.all_webs(4) + plain.some_webs(240, 84, most_ties=6):
            told = pieces(web)
            self.assertIs(type(told), list)
            self.assertEqual({type(piece) for piece in told}, {tuple})
            self.assertEqual(told, plain.pieces(web), web)

    def test_by_hand(self):
        self.assertEqual(pieces((1, ())), [(0,)])
        self.assertEqual(pieces((6, ())), [(0,), (1,), (2,), (3,), (4,), (5,)])
        self.assertEqual(pieces(FULL), [(0, 1, 2, 3, 4, 5)])
        self.assertEqual(pieces((6, ((0, 5), (1, 4), (2, 3)))), [(0, 5), (1, 4), (2, 3)])
        self.assertEqual(pieces((6, ((0, 5), (1, 2), (3, 5)))), [(0, 3, 5), (1, 2), (4,)])
        self.assertEqual(pieces((5, ((0, 3), (1, 4), (3, 4)))), [(0, 1, 3, 4), (2,)])

    def test_a_new_list_each_time(self):
        for web in ((1, ()), TWO, FULL, (6, ())):
            first = pieces(web)
            due = list(first)
            self.assertIsNot(pieces(web), first)
            first.clear()
            first.append("mine")
            self.assertEqual(pieces(web), due)

    def test_choices_are_those_of_the_pieces_put_together(self):
        for web, lists in asked(seed=85):
            many = 1
            for piece in pieces(web):
                many *= choices_many(*alone(web, lists, piece))
            self.assertEqual(choices_many(web, lists), many)
            for choice in plain.choices(web, lists)[:20]:
                for piece in pieces(web):
                    part = tuple(choice[place] for place in piece)
                    self.assertIn(part, plain.choices(*alone(web, lists, piece)))


class Without(unittest.TestCase):
    def test_each_place(self):
        for web, lists in asked(seed=86):
            if web[0] > 1:
                for place in range(web[0]):
                    others = [other for other in range(web[0]) if other != place]
                    told = without(web, lists, place)
                    self.assertIs(type(told), tuple)
                    self.assertEqual(told, alone(web, lists, others), (web, lists, place))
                    self.assertIs(is_web(told[0]), True)
                    self.assertIs(are_lists(told[1], told[0]), True)

    def test_by_hand(self):
        lists = ((0,), (1,), (2,))
        self.assertEqual(without(PATH, lists, 0), ((2, ((0, 1),)), ((1,), (2,))))
        self.assertEqual(without(PATH, lists, 1), ((2, ()), ((0,), (2,))))
        self.assertEqual(without(PATH, lists, 2), ((2, ((0, 1),)), ((0,), (1,))))
        self.assertEqual(without(TWO, ((), (5,)), 0), ((1, ()), ((5,),)))
        for place in range(6):
            self.assertEqual(without(FULL, (EIGHT,) * 6, place), ((5, plain.pairs(5)), (EIGHT,) * 5))

    def test_web_of_one_place(self):
        for place in BAD_PLACES + (0, 1):
            self.assertRaises(NoNumber, without, (1, ()), ((),), place)
            self.assertRaises(NoNumber, without, (1, ()), (EIGHT,), place)

    def test_no_place(self):
        for place in BAD_PLACES:
            with self.subTest(place):
                self.assertRaises(NoNumber, without, FULL, (EIGHT,) * 6, place)
                self.assertRaises(NoNumber, without, TWO, ((0,), (1,)), place)
        for place in (2, 3, True, False, -1, -2):
            self.assertRaises(NoNumber, without, TWO, ((0,), (1,)), place)


class Sure(unittest.TestCase):
    def is_told(self, web, lists):
        told = sure(web, lists)
        self.assertIs(type(told), tuple)
        steps, last = told
        self.assertIs(type(steps), list)
        self.assertEqual({type(step) for step in steps} | {tuple}, {tuple})
        self.assertEqual(told, followed(web, lists), (web, lists))
        self.assertIs(are_lists(last, web), True)
        self.assertEqual(plain.choices(web, last), plain.choices(web, lists))
        return steps, last

    def test_by_chance(self):
        long = 0
        for web, lists in asked(600, 87):
            steps, last = self.is_told(web, lists)
            long += len(steps) > 2
        self.assertGreater(long, 30)

    def test_all_small_lists(self):
        rows = ((), (0,), (1,), (0, 1), (0, 1, 2))
        for web in plain.all_webs(3):
            for lists in product(rows, repeat=3):
                self.is_told(web, lists)

    def test_one_hue_leads_to_the_next(self):
        self.assertEqual(sure(PATH, ((0,), (0, 1), (1, 2))), ([(0, 0), (1, 1), (2, 2)], ((0,), (1,), (2,))))
        self.assertEqual(sure(PATH, ((0, 1), (1, 2), (2,))), ([(2, 2), (1, 1), (0, 0)], ((0,), (1,), (2,))))
        lists = tuple(tuple(range(many + 1)) for many in range(6))
        steps = [(place, place) for place in range(6)]
        self.assertEqual(sure(FULL, lists), (steps, tuple((hue,) for hue in range(6))))
        # The least place goes, even where another one had its one hue ahead of it.
        self.assertEqual(sure(PATH, ((0, 1), (0,), (0, 2))), ([(1, 0), (0, 1), (2, 2)], ((1,), (0,), (2,))))
        self.assertEqual(sure((3, ((0, 1),)), ((0, 1), (0,), (7,))), ([(1, 0), (0, 1), (2, 7)], ((1,), (0,), (7,))))

    def test_where_none_goes_on(self):
        # A list comes to have no hue.
        self.assertEqual(sure(TWO, ((0,), (0,))), ([(0, 0)], ((0,), ())))
        self.assertEqual(sure((3, ((0, 1),)), ((0,), (0,), (5,))), ([(0, 0)], ((0,), (), (5,))))
        # Or has none from the start.
        self.assertEqual(sure(TWO, ((), (0,))), ([], ((), (0,))))
        self.assertEqual(sure((3, ()), ((0,), (1,), ())), ([], ((0,), (1,), ())))
        self.assertEqual(sure((1, ()), ((),)), ([], ((),)))

    def test_no_step(self):
        self.assertEqual(sure(TRIANGLE, ((0, 1),) * 3), ([], ((0, 1),) * 3))
        self.assertEqual(sure((1, ()), ((0, 1),)), ([], ((0, 1),)))

    def test_a_new_list_each_time(self):
        for web, lists in ((PATH, ((0,), (0, 1), (1, 2))), (TWO, ((0, 1), (0, 1)))):
            first = sure(web, lists)[0]
            due = list(first)
            first.append("mine")
            self.assertEqual(sure(web, lists)[0], due)


class Refused(unittest.TestCase):
    def test_no_web_ahead_of_all_else(self):
        for web in BAD_WEBS:
            self.assertRaises(NoWeb, pieces, web)
            for thing in ((), ((0,), (1,)), None, [web]):
                self.assertRaises(NoWeb, taken, web, thing, thing, thing)
                self.assertRaises(NoWeb, named, web, thing, thing)
                self.assertRaises(NoWeb, without, web, thing, thing)
                self.assertRaises(NoWeb, sure, web, thing)
            self.assertRaises(NoWeb, taken, web, ((0,), (1,)), 0, 0)
            self.assertRaises(NoWeb, without, web, ((0,), (1,)), 0)

    def test_then_no_lists(self):
        for lists in BAD_LISTS:
            self.assertRaises(NoLists, sure, TWO, lists)
            for thing in (0, 5, (0,), (), None, lists):
                self.assertRaises(NoLists, taken, TWO, lists, thing, thing)
                self.assertRaises(NoLists, named, TWO, lists, thing)
                self.assertRaises(NoLists, without, TWO, lists, thing)
        for hues in BAD_HUES:
            self.assertRaises(NoLists, without, (1, ()), (hues,), 0)
            self.assertRaises(NoLists, sure, (1, ()), (hues,))


if __name__ == "__main__":
    unittest.main()
