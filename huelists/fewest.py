"""The least number of choices that lists of one size have, and the first lists that have so few."""

from huelists.always import lists_to_try
from huelists.choices import choices_many
from huelists.errors import NoNumber, TooMany
from huelists.webs import check_web, is_whole

MOST_PLACES_HERE = 4
GREATEST_SIZE_HERE = 2


def fewest(web, size):
    """The least number of choices that lists have of which each has so many hues."""
    many, lists = fewest_and_lists(web, size)
    return many


def fewest_lists(web, size):
    """The first lists, as tuples are ordered, with the fewest choices, of those whose hues come in in their order."""
    many, lists = fewest_and_lists(web, size)
    return lists


def fewest_and_lists(web, size):
    """The least number of choices, and the first lists that have so few: a tuple."""
    check_web(web)
    if not is_whole(size) or not 1 <= size <= GREATEST_SIZE_HERE:
        raise NoNumber("no size of 1 or 2")
    if web[0] > MOST_PLACES_HERE:
        raise TooMany("more than four places")
    return min([(choices_many(web, lists), lists) for lists in lists_of_size(web[0], size)])


def lists_of_size(places, size):
    """All lists of this size, each hue no greater than one more than the greatest one ahead of it."""
    found = [()]
    for place in range(places):
        found = [lists + (hues,) for lists in found for hues in lists_to_try(lists, size, places * size)]
    return found
