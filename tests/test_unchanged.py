"""Promise 4: nothing that is handed in is changed; the same asked again has the same answer."""

import copy
import unittest

from huelists.always import always, bar_for, hues_many, is_bar, least_length
from huelists.blocks import always_near, blocks, near_bar, near_sizes, plain_blocks
from huelists.changes import named, pieces, sure, taken, without
from huelists.choices import begun_many, choice_at, choices_many, first_choice, is_none_paper, none_paper, number_of
from huelists.counts import count_at, no_rounds_many, powers_of
from huelists.desk import Desk
from huelists.errors import HueError
from huelists.fewest import fewest, fewest_lists
from huelists.orders import choice_by, core, is_order, narrowness, order_for
from huelists.stable import is_stable, long_choice, stable_ones
from huelists.terms import is_term_paper, runs_many, term, term_for, terms
from huelists.texts import read, show
from huelists.tielists import are_tie_lists, first_part, first_tie_choice, is_tie_choice, tie_choices_many, width
from huelists.webs import are_lists, are_sizes, is_choice, is_web, near, sizes_of
from tests.kinds import ALL_TIES, BAD_LISTS, BAD_PLACES, BAD_SIZES, BAD_WEBS, GOOD_WEBS, ODD, TWO

LISTS = ((0, 1), (1, 2))
OF_A_WEB = (
    least_length, hues_many, narrowness, terms, width, first_part, powers_of, no_rounds_many, pieces, blocks,
    plain_blocks, near_sizes, always_near, near_bar,
)
OF_LISTS = (first_choice, choices_many, none_paper, sure)
OF_LISTS_AND_A_THING = (choice_at, number_of, begun_many, choice_by, named, without)
OF_SIZES = (always, bar_for, order_for, core, term_for)
OF_A_THING_AND_SIZES = (is_bar, is_order, is_term_paper)
OF_A_WEB_AND_A_THING = (term, runs_many, count_at, fewest, fewest_lists)
OF_TIE_LISTS = (first_tie_choice, tie_choices_many, long_choice)
TIE_LISTS = ((3, 5),)


def asked(function, handed):
    """What is told, or the class and the fields of the refusal."""
    try:
        return function(*handed)
    except HueError as error:
        return type(error), vars(error)


class Unchanged(unittest.TestCase):
    def stays(self, function, *handed):
        ahead = copy.deepcopy(handed)
        first = asked(function, handed)
        self.assertEqual(repr(handed), repr(ahead), function.__name__)
        second = asked(function, handed)
        self.assertEqual(repr(handed), repr(ahead), function.__name__)
        self.assertEqual(repr(first), repr(second), function.__name__)

    def test_of_whatever_kind(self):
        for thing in ODD + BAD_WEBS + BAD_LISTS + BAD_PLACES + GOOD_WEBS:
            self.stays(is_web, thing)
            self.stays(read, thing)
            self.stays(are_lists, thing, TWO)
            self.stays(are_sizes, thing, TWO)
            self.stays(is_choice, thing, TWO, LISTS)
            self.stays(near, TWO, thing)
            self.stays(sizes_of, TWO, thing)
            self.stays(show, TWO, thing)
            self.stays(are_lists, LISTS, thing)
            self.stays(are_sizes, (1, 1), thing)
            self.stays(is_choice, (0, 1), thing, LISTS)
            self.stays(is_choice, (0, 1), TWO, thing)
            self.stays(near, thing, 0)
            self.stays(sizes_of, thing, LISTS)
            self.stays(show, thing, LISTS)

    def test_later_stages_of_whatever_kind(self):
        for thing in ODD + BAD_WEBS + BAD_LISTS + BAD_SIZES + GOOD_WEBS:
            for web, lists, sizes in ((thing, LISTS, (1, 2)), (TWO, thing, thing), (TWO, LISTS, (1, 2))):
                self.stays_in_later_stages(web, lists, sizes, thing)

    def test_later_stages_of_what_is_due(self):
        six = (6, ALL_TIES[:10])
        papers = (none_paper(TWO, ((3,), (3,))), bar_for(TWO, (1, 1)), order_for(TWO, (1, 2)), term_for(TWO, (1, 2)))
        for thing in papers + (0, (0, 1), (1, 0), ()):
            self.stays_in_later_stages(TWO, LISTS, (1, 2), thing)
            self.stays_in_later_stages(TWO, ((3,), (3,)), (1, 1), thing)
        for thing in (0, tuple(range(6)), (5, 4, 3, 2, 1, 0), (0,) * 6):
            self.stays_in_later_stages(six, ((1, 2, 3),) * 6, (3,) * 6, thing)

    def stays_in_later_stages(self, web, lists, sizes, thing):
        for function in OF_A_WEB:
            self.stays(function, web)
        for function in OF_LISTS:
            self.stays(function, web, lists)
        for function in OF_LISTS_AND_A_THING:
            self.stays(function, web, lists, thing)
        self.stays(taken, web, lists, thing, thing)
        self.stays(taken, web, lists, 0, thing)
        self.stays(is_none_paper, thing, web, lists)
        for function in OF_SIZES:
            self.stays(function, web, sizes)
        for function in OF_A_THING_AND_SIZES:
            self.stays(function, thing, web, sizes)
        for function in OF_A_WEB_AND_A_THING:
            self.stays(function, web, thing)

    def test_ties_of_whatever_kind(self):
        for thing in ODD + BAD_WEBS + BAD_LISTS + GOOD_WEBS:
            self.stays_with_ties(thing, TIE_LISTS, (7,), (0,), (3,))
            self.stays_with_ties(TWO, thing, thing, (0,), (3,))
            self.stays_with_ties(TWO, TIE_LISTS, (7,), thing, thing)

    def test_ties_of_what_is_due(self):
        self.stays_with_ties(TWO, TIE_LISTS, (7,), (0,), (3,))
        self.stays_with_ties(TWO, TIE_LISTS, (7,), (0,), (0,))
        ring = (4, ((0, 1), (0, 3), (1, 2), (2, 3)))
        self.stays_with_ties(ring, ((0, 1), (1, 2), (0, 2), (0, 1)), (0, 1, 1, 0), (0, 1, 2), (0, 1, 2, 0))
        self.stays_with_ties((6, ALL_TIES), ((1, 2, 3),) * 15, tuple(range(15)), (3, 4), ())

    def stays_with_ties(self, web, lists, ranks, some, thing):
        self.stays(are_tie_lists, lists, web)
        self.stays(is_tie_choice, thing, web, lists)
        for function in OF_TIE_LISTS:
            self.stays(function, web, lists)
        self.stays(is_stable, thing, web, ranks, some)
        self.stays(stable_ones, web, ranks, some)

    def test_what_a_desk_is_told(self):
        lines = ("web", "web 3", "tie 0 1", "cut 0 1", "list 0 1", "take 0 1", "back", "many")
        for thing in ODD + BAD_WEBS + BAD_LISTS + lines:
            ahead = copy.deepcopy(thing)
            told = [asked(Desk().say, (thing,)) for desk in range(2)]
            self.assertEqual(repr(thing), repr(ahead))
            self.assertEqual(repr(told[0]), repr(told[1]))

    def test_of_what_is_due(self):
        six = ((6, ALL_TIES), ((1, 2, 3),) * 6)
        for web, lists in ((TWO, LISTS), six):
            self.stays(is_web, web)
            self.stays(are_lists, lists, web)
            self.stays(are_sizes, sizes_of(web, lists), web)
            self.stays(is_choice, (1, 2), web, lists)
            self.stays(near, web, 1)
            self.stays(sizes_of, web, lists)
            self.stays(show, web, lists)
            self.stays(read, show(web, lists))


if __name__ == "__main__":
    unittest.main()
