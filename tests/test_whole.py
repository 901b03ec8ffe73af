"""Promises 5 and 6 over the whole program: what is refused first, and that there is a choice or a paper, never both."""

import random
import unittest
from itertools import combinations, product

from huelists import always, blocks, changes, choices, counts, fewest, orders, stable, terms, texts, tielists, webs
from huelists.errors import NoLists, NoSizes, NoWeb
from tests import plain
from tests.kinds import ALL_TIES, BAD_LISTS, BAD_SIZES, BAD_WEBS, ODD, TWO

# Each function of the interface that is handed a web, with its arguments: "web", "lists", "sizes", or other ones.
HANDED = (
    (webs.are_lists, "thing web"), (webs.are_sizes, "thing web"), (webs.is_choice, "thing web lists"),
    (webs.near, "web thing"), (webs.sizes_of, "web lists"), (texts.show, "web lists"),
    (choices.first_choice, "web lists"), (choices.choices_many, "web lists"), (choices.choice_at, "web lists thing"),
    (choices.number_of, "web lists thing"), (choices.begun_many, "web lists thing"),
    (choices.is_none_paper, "thing web lists"), (choices.none_paper, "web lists"),
    (always.always, "web sizes"), (always.is_bar, "thing web sizes"), (always.bar_for, "web sizes"),
    (always.least_length, "web"), (always.hues_many, "web"),
    (orders.is_order, "thing web sizes"), (orders.order_for, "web sizes"), (orders.core, "web sizes"),
    (orders.choice_by, "web lists thing"), (orders.narrowness, "web"),
    (terms.terms, "web"), (terms.term, "web thing"), (terms.is_term_paper, "thing web sizes"),
    (terms.term_for, "web sizes"), (terms.runs_many, "web thing"),
    (tielists.are_tie_lists, "thing web"), (tielists.is_tie_choice, "thing web thing"),
    (tielists.first_tie_choice, "web thing"), (tielists.tie_choices_many, "web thing"), (tielists.width, "web"),
    (tielists.first_part, "web"), (stable.is_stable, "thing web thing thing"), (stable.stable_ones, "web thing thing"),
    (stable.long_choice, "web thing"), (counts.powers_of, "web"), (counts.count_at, "web thing"),
    (counts.no_rounds_many, "web"), (fewest.fewest, "web thing"), (fewest.fewest_lists, "web thing"),
    (changes.taken, "web lists thing thing"), (changes.named, "web lists thing"), (changes.pieces, "web"),
    (changes.without, "web lists thing"), (changes.sure, "web lists"), (blocks.blocks, "web"),
    (blocks.plain_blocks, "web"), (blocks.near_sizes, "web"), (blocks.always_near, "web"), (blocks.near_bar, "web"),
)
THINGS = (0, 1, (), (0, 1), ((0,), (1,)), None, True, "web", [0], {0: 1})


class Refused(unittest.TestCase):
    def refused(self, error, function, kinds, known, thing):
        handed = [known.get(kind, thing) for kind in kinds.split()]
        with self.assertRaises(error) as caught:
            function(*handed)
        self.assertIs(type(caught.exception), error, (function.__name__, handed))

    def test_no_web_ahead_of_all_else(self):
        for function, kinds in HANDED:
            for web in BAD_WEBS:
                for thing in THINGS[::3]:
                    self.refused(NoWeb, function, kinds, {"web": web}, thing)
                self.refused(NoWeb, function, kinds, {"web": web, "lists": ((0,), (1,)), "sizes": (1, 1)}, web)

    def test_then_no_lists(self):
        for function, kinds in HANDED:
            if "lists" in kinds.split():
                for lists in BAD_LISTS:
                    for thing in THINGS[::3]:
                        self.refused(NoLists, function, kinds, {"web": TWO, "lists": lists}, thing)
                for lists in ODD:
                    self.refused(NoLists, function, kinds, {"web": (6, ALL_TIES), "lists": lists}, lists)

    def test_then_no_sizes(self):
        for function, kinds in HANDED:
            if "sizes" in kinds.split():
                for sizes in BAD_SIZES:
                    for thing in THINGS[::3]:
                        self.refused(NoSizes, function, kinds, {"web": TWO, "sizes": sizes}, thing)
                        self.refused(NoSizes, function, kinds, {"web": (6, ALL_TIES), "sizes": sizes}, thing)


class ChoiceOrPaper(unittest.TestCase):
    def one_of_both(self, web, lists):
        choice = choices.first_choice(web, lists)
        paper = choices.none_paper(web, lists)
        self.assertEqual(choice is None, paper is not None, (web, lists))
        if paper is None:
            self.assertIs(webs.is_choice(choice, web, lists), True)
            self.assertEqual(choices.number_of(web, lists, choice), 0)
        else:
            self.assertIs(choices.is_none_paper(paper, web, lists), True)
            self.assertTrue(plain.is_paper(paper, web, lists, {}))
        return paper

    def test_all_webs_of_few_places(self):
        rows = [hues for many in range(4) for hues in combinations(range(3), many)]
        for places in (1, 2, 3):
            for web in plain.all_webs(places):
                for lists in product(rows, repeat=places):
                    self.one_of_both(web, lists)

    def test_more_places_by_chance(self):
        chance = random.Random(6)
        papers = 0
        for web in plain.all_webs(4) + plain.some_webs(200, 6, least=5):
            lists = plain.some_lists(web, chance, 3, 3)
            papers += self.one_of_both(web, lists) is not None
        self.assertGreater(papers, 30)

    def test_no_choice_where_the_sure_steps_bare_a_list(self):
        chance = random.Random(7)
        for web in plain.some_webs(200, 7):
            lists = plain.some_lists(web, chance, 3, 2)
            steps, last = changes.sure(web, lists)
            if () in last:
                self.assertIsNotNone(self.one_of_both(web, lists))


class AlwaysOrBar(unittest.TestCase):
    def test_never_both(self):
        found = {True: 0, False: 0}
        for places in (1, 2, 3, 4):
            for web in plain.unlike_webs(places):
                for sizes in product(range(4), repeat=places):
                    bar = always.bar_for(web, sizes)
                    self.assertIs(always.always(web, sizes), bar is None)
                    found[bar is None] += 1
                    if bar is not None:
                        self.assertEqual(webs.sizes_of(web, bar), sizes)
                        self.assertFalse(plain.has_choice(web, bar))
        self.assertGreater(min(found.values()), 100)

    def test_by_an_order_a_term_or_long_lists(self):
        for web in plain.unlike_webs(4) + plain.unlike_webs(5):
            for size in (1, 2, 3, 4):
                sizes = (size,) * web[0]
                if orders.order_for(web, sizes) is not None or terms.term_for(web, sizes) is not None:
                    self.assertIs(always.always(web, sizes), True)
            least = always.least_length(web)
            self.assertLessEqual(least, orders.narrowness(web))
            self.assertGreaterEqual(least, always.hues_many(web))

    def test_near_sizes_as_sizes(self):
        for web in plain.unlike_webs(5):
            sizes = blocks.near_sizes(web)
            self.assertIs(always.always(web, sizes), blocks.always_near(web))
            bar = blocks.near_bar(web)
            self.assertIs(always.is_bar(bar, web, sizes), bar is not None)


if __name__ == "__main__":
    unittest.main()
