"""Each question about a web of six places, or of as many as are taken, is answered soon."""

import random
import time
import unittest

from huelists.always import always, bar_for, hues_many, is_bar, least_length
from huelists.choices import begun_many, choice_at, choices_many, first_choice, is_none_paper, none_paper, number_of
from huelists.orders import choice_by, core, is_order, narrowness, order_for
from huelists.terms import is_term_paper, runs_many, term, term_for, terms
from huelists.webs import sizes_of
from tests import plain
from tests.kinds import ALL_TIES

EIGHTS = (tuple(range(8)),) * 6
APART = tuple(tuple(range(8 * place, 8 * place + 8)) for place in range(6))
BARRED = (EIGHTS[:5] + ((),), ((),) + EIGHTS[:5], (tuple(range(5)),) * 6, ((0, 1, 2, 3, 4),) * 4 + ((0,), (0,)))
# Far more than is due, so that a slow machine does not fail it, and far less than going through all lists takes.
SECONDS = 2


class Soon(unittest.TestCase):
    def ask(self, function, *handed):
        start = time.perf_counter()
        told = function(*handed)
        self.assertLess(time.perf_counter() - start, SECONDS, (function.__name__, handed))
        return told

    def ask_of_lists(self, web, lists):
        many = self.ask(choices_many, web, lists)
        self.ask(first_choice, web, lists)
        self.ask(begun_many, web, lists, ())
        if many:
            last = self.ask(choice_at, web, lists, many - 1)
            self.assertEqual(self.ask(number_of, web, lists, last), many - 1)
        else:
            paper = self.ask(none_paper, web, lists)
            self.assertIs(self.ask(is_none_paper, paper, web, lists), True)
        order = self.ask(order_for, web, sizes_of(web, lists))
        if order:
            self.assertIs(self.ask(is_order, order, web, sizes_of(web, lists)), True)
            self.ask(choice_by, web, lists, order)

    def test_lists_of_six_places(self):
        chance = random.Random(6)
        for web in [(6, ()), (6, ALL_TIES)] + plain.some_webs(100, 6, least=6):
            for lists in (EIGHTS, APART, plain.some_lists(web, chance, 8, 8)) + BARRED:
                self.ask_of_lists(web, lists)
            self.ask(narrowness, web)
            self.ask(core, web, (3,) * 6)

    def test_terms_of_six_places(self):
        for web in [(6, ()), (6, ALL_TIES[:10])] + plain.some_webs(100, 7, least=6, most_ties=10):
            powers = self.ask(term_for, web, (8,) * 6)
            self.assertIs(self.ask(is_term_paper, powers, web, (8,) * 6), True)
            self.assertEqual(self.ask(terms, web)[powers], self.ask(term, web, powers))
            self.ask(runs_many, web, powers)

    def test_sizes_of_five_places(self):
        for web in plain.all_webs(5)[::5]:
            self.ask(least_length, web)
            self.ask(hues_many, web)
            for sizes in ((2,) * 5, (3,) * 5, (8,) * 5, (3, 2, 2, 2, 2), (1, 2, 3, 3, 4)):
                self.ask(always, web, sizes)
                bar = self.ask(bar_for, web, sizes)
                self.ask(is_bar, bar, web, sizes)


if __name__ == "__main__":
    unittest.main()
