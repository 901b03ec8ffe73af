"""Promise 5: the classes of errors, and the order in which refusals go."""

import unittest

from huelists import errors, texts, webs
from tests.kinds import BAD_LISTS, BAD_PLACES, BAD_WEBS, ODD, TWO

OF_A_TEXT = (
    "NoWeb", "NoLists", "NoSizes", "NoChoice", "NoNumber", "NoOrder", "TooMany", "NoRanks", "Short", "NoLine",
)


class Classes(unittest.TestCase):
    def test_hue_error_stands_straight_under_value_error(self):
        self.assertEqual(errors.HueError.__bases__, (ValueError,))

    def test_each_stands_straight_under_hue_error(self):
        for name in OF_A_TEXT + ("NoText",):
            with self.subTest(name):
                self.assertEqual(getattr(errors, name).__bases__, (errors.HueError,))

    def test_none_stands_under_another(self):
        classes = [getattr(errors, name) for name in OF_A_TEXT + ("NoText",)]
        self.assertEqual(len(set(classes)), 11)
        for one in classes:
            for other in classes:
                if one is not other:
                    self.assertFalse(issubclass(one, other))

    def test_made_of_a_text(self):
        for name in OF_A_TEXT + ("HueError",):
            with self.subTest(name):
                self.assertEqual(str(getattr(errors, name)("so it is")), "so it is")

    def test_no_text_keeps_what_it_is_made_of(self):
        for at in (0, 1, 25):
            self.assertEqual(errors.NoText(at).at, at)

    def test_defined_in_their_file(self):
        for name in OF_A_TEXT + ("HueError", "NoText"):
            self.assertEqual(getattr(errors, name).__module__, "huelists.errors")


class Order(unittest.TestCase):
    """Where several refusals are due at once: NoWeb, then NoLists, then NoNumber."""

    def refused(self, error, function, *handed):
        with self.assertRaises(errors.HueError) as caught:
            function(*handed)
        self.assertIs(type(caught.exception), error, (function.__name__, handed))

    def test_no_web_goes_first(self):
        for web in BAD_WEBS:
            for thing in (None, (), ((0,), (1,)), (0, 0), [], web):
                self.refused(errors.NoWeb, webs.are_lists, thing, web)
                self.refused(errors.NoWeb, webs.are_sizes, thing, web)
                self.refused(errors.NoWeb, webs.sizes_of, web, thing)
                self.refused(errors.NoWeb, webs.near, web, thing)
                self.refused(errors.NoWeb, texts.show, web, thing)
                self.refused(errors.NoWeb, webs.is_choice, thing, web, thing)
            self.refused(errors.NoWeb, webs.near, web, 0)
            self.refused(errors.NoWeb, webs.is_choice, (0, 1), web, ((0,), (1,)))

    def test_then_no_lists(self):
        for lists in BAD_LISTS:
            self.refused(errors.NoLists, webs.sizes_of, TWO, lists)
            self.refused(errors.NoLists, texts.show, TWO, lists)
            for thing in ((0, 1), None, lists):
                self.refused(errors.NoLists, webs.is_choice, thing, TWO, lists)

    def test_then_no_number(self):
        for place in BAD_PLACES:
            self.refused(errors.NoNumber, webs.near, TWO, place)

    def test_no_text(self):
        for thing in ODD:
            if thing != "3 0-1 1-2 : 0,1 2 -":
                self.refused(errors.NoText, texts.read, thing)


if __name__ == "__main__":
    unittest.main()
