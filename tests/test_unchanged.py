"""Promise 4: nothing that is handed in is changed; the same asked again has the same answer."""

import copy
import unittest

from huelists.errors import HueError
from huelists.texts import read, show
from huelists.webs import are_lists, are_sizes, is_choice, is_web, near, sizes_of
from tests.kinds import ALL_TIES, BAD_LISTS, BAD_PLACES, BAD_WEBS, GOOD_WEBS, ODD, TWO

LISTS = ((0, 1), (1, 2))


def asked(function, handed):
    """What is told, or the class and the fields of the refusal."""
    try:
        return function(*handed)
    except HueError as error:
        return type(error), vars(error)


class Unchanged(unittest.TestCase):
    def stays(self, function, *handed):
        ahead = copy.deepcopy(handed)
        first = asked(function, handed)
        self.assertEqual(repr(handed), repr(ahead), function.__name__)
        second = asked(function, handed)
        self.assertEqual(repr(handed), repr(ahead), function.__name__)
        self.assertEqual(repr(first), repr(second), function.__name__)

    def test_of_whatever_kind(self):
        for thing in ODD + BAD_WEBS + BAD_LISTS + BAD_PLACES + GOOD_WEBS:
            self.stays(is_web, thing)
            self.stays(read, thing)
            self.stays(are_lists, thing, TWO)
            self.stays(are_sizes, thing, TWO)
            self.stays(is_choice, thing, TWO, LISTS)
            self.stays(near, TWO, thing)
            self.stays(sizes_of, TWO, thing)
            self.stays(show, TWO, thing)
            self.stays(are_lists, LISTS, thing)
            self.stays(are_sizes, (1, 1), thing)
            self.stays(is_choice, (0, 1), thing, LISTS)
            self.stays(is_choice, (0, 1), TWO, thing)
            self.stays(near, thing, 0)
            self.stays(sizes_of, thing, LISTS)
            self.stays(show, thing, LISTS)

    def test_of_what_is_due(self):
        six = ((6, ALL_TIES), ((1, 2, 3),) * 6)
        for web, lists in ((TWO, LISTS), six):
            self.stays(is_web, web)
            self.stays(are_lists, lists, web)
            self.stays(are_sizes, sizes_of(web, lists), web)
            self.stays(is_choice, (1, 2), web, lists)
            self.stays(near, web, 1)
            self.stays(sizes_of, web, lists)
            self.stays(show, web, lists)
            self.stays(read, show(web, lists))


if __name__ == "__main__":
    unittest.main()
