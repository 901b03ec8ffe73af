"""Each question about a web of six places, or of as many as are taken, is answered soon."""

import random
import time
import unittest

from huelists.always import always, bar_for, hues_many, is_bar, least_length
from huelists.blocks import always_near, blocks, near_bar, near_sizes, plain_blocks
from huelists.changes import named, pieces, sure, taken, without
from huelists.choices import begun_many, choice_at, choices_many, first_choice, is_none_paper, none_paper, number_of
from huelists.counts import count_at, no_rounds_many, powers_of
from huelists.fewest import fewest, fewest_lists
from huelists.orders import choice_by, core, is_order, narrowness, order_for
from huelists.stable import is_stable, long_choice, stable_ones
from huelists.terms import is_term_paper, runs_many, term, term_for, terms
from huelists.tielists import first_part, first_tie_choice, is_tie_choice, tie_choices_many, width
from huelists.webs import sizes_of
from tests import plain
from tests.kinds import ALL_TIES, BIG

EIGHTS = (tuple(range(8)),) * 6
APART = tuple(tuple(range(8 * place, 8 * place + 8)) for place in range(6))
BARRED = (EIGHTS[:5] + ((),), ((),) + EIGHTS[:5], (tuple(range(5)),) * 6, ((0, 1, 2, 3, 4),) * 4 + ((0,), (0,)))
# Far more than is due, so that a slow machine does not fail it, and far less than going through all lists takes.
SECONDS = 10


class Soon(unittest.TestCase):
    def ask(self, function, *handed):
        start = time.perf_counter()
        told = function(*handed)
        self.assertLess(time.perf_counter() - start, SECONDS, (function.__name__, handed))
        return told

    def ask_of_lists(self, web, lists):
        many = self.ask(choices_many, web, lists)
        self.ask(first_choice, web, lists)
        self.ask(begun_many, web, lists, ())
        if many:
            last = self.ask(choice_at, web, lists, many - 1)
            self.assertEqual(self.ask(number_of, web, lists, last), many - 1)
        else:
            paper = self.ask(none_paper, web, lists)
            self.assertIs(self.ask(is_none_paper, paper, web, lists), True)
        order = self.ask(order_for, web, sizes_of(web, lists))
        if order:
            self.assertIs(self.ask(is_order, order, web, sizes_of(web, lists)), True)
            self.ask(choice_by, web, lists, order)

    def test_lists_of_six_places(self):
        chance = random.Random(6)
        for web in [(6, ()), (6, ALL_TIES)] + plain.some_webs(100, 6, least=6):
            for lists in (EIGHTS, APART, plain.some_lists(web, chance, 8, 8)) + BARRED:
                self.ask_of_lists(web, lists)
            self.ask(narrowness, web)
            self.ask(core, web, (3,) * 6)

    def test_terms_of_six_places(self):
        for web in [(6, ()), (6, ALL_TIES[:10])] + plain.some_webs(100, 7, least=6, most_ties=10):
            powers = self.ask(term_for, web, (8,) * 6)
            self.assertIs(self.ask(is_term_paper, powers, web, (8,) * 6), True)
            self.assertEqual(self.ask(terms, web)[powers], self.ask(term, web, powers))
            self.ask(runs_many, web, powers)

    def ask_of_ties(self, web, lists):
        many = self.ask(tie_choices_many, web, lists)
        first = self.ask(first_tie_choice, web, lists)
        self.assertEqual(self.ask(is_tie_choice, first, web, lists), many > 0)
        return many

    def test_all_tied_with_lists_of_eight(self):
        full = (6, ALL_TIES)
        eights = (tuple(range(8)),) * 15
        # So many as the choices of one hue of the first tie each, which are as many for each.
        self.assertEqual(self.ask_of_ties(full, eights), 8 * self.ask_of_ties(full, ((5,),) + eights[1:]))
        chance = random.Random(61)
        for hues in (8, 9, 12, 20, 40, 100):
            self.ask_of_ties(full, plain.some_tie_lists(full, chance, hues, 8, 8))
        self.ask_of_ties(full, tuple(tuple(range(6 * tie, 6 * tie + 8)) for tie in range(15)))

    def test_no_tie_choice_found_soon(self):
        full = (6, ALL_TIES)
        for at in range(6):
            # The ties of five places bar a tie choice, whatever those of the sixth take.
            lists = tuple(tuple(range(10, 18)) if at in tie else (0, 1, 2, 3) for tie in ALL_TIES)
            self.assertEqual(self.ask_of_ties(full, lists), 0)
        for hues in (3, 4):
            self.assertEqual(self.ask_of_ties(full, (tuple(range(hues)),) * 15), 0)
        self.assertEqual(self.ask_of_ties(full, (tuple(range(8)),) * 14 + ((),)), 0)

    def test_two_sided_webs_and_counts(self):
        chance = random.Random(64)
        for web in plain.two_sided_webs(60, 64, least=6):
            ties = len(web[1])
            ranks = tuple(BIG - rank for rank in chance.sample(range(1000), ties))
            told = self.ask(stable_ones, web, ranks, tuple(range(ties)))
            self.assertIs(self.ask(is_stable, told, web, ranks, tuple(range(ties))), True)
            self.ask(long_choice, web, plain.some_tie_lists(web, chance, 20, 8, 5))
        for web in [(6, ()), (6, ALL_TIES)] + plain.some_webs(30, 71, least=6):
            for function in (width, first_part, powers_of, no_rounds_many):
                self.ask(function, web)
            self.ask(count_at, web, -BIG)

    def test_fewest_of_four_places(self):
        for web in plain.all_webs(4)[::3] + [(4, plain.pairs(4))]:
            for size in (1, 2):
                self.ask(fewest, web, size)
                self.ask(fewest_lists, web, size)

    def test_changes_and_blocks_of_six_places(self):
        for web in [(6, ()), (6, ALL_TIES)] + plain.some_webs(60, 81, least=6):
            for function in (pieces, blocks, plain_blocks, near_sizes, always_near, near_bar):
                self.ask(function, web)
            for lists in (EIGHTS, APART, tuple(tuple(range(many + 1)) for many in range(6))) + BARRED:
                self.ask(sure, web, lists)
                self.ask(without, web, lists, 3)
                if 0 in lists[2]:
                    self.ask(taken, web, lists, 2, 0)
                self.ask(named, web, lists, tuple(range(99, 99 - 1 - max(map(max, filter(None, lists))), -1)))

    def test_sizes_of_five_places(self):
        for web in plain.all_webs(5)[::5]:
            self.ask(least_length, web)
            self.ask(hues_many, web)
            for sizes in ((2,) * 5, (3,) * 5, (8,) * 5, (3, 2, 2, 2, 2), (1, 2, 3, 3, 4)):
                self.ask(always, web, sizes)
                bar = self.ask(bar_for, web, sizes)
                self.ask(is_bar, bar, web, sizes)


if __name__ == "__main__":
    unittest.main()
