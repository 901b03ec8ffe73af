"""Webs, and lists, sizes and choices of them."""

from huelists.errors import NoLists, NoNumber, NoSizes, NoWeb

MOST_PLACES = 6
MOST_HUES = 8
GREATEST_HUE = 99
GREATEST_SIZE = 8


def is_web(thing):
    """Whether the thing, of whatever kind, is a web."""
    if not is_tuple_of(thing, 2):
        return False
    places, ties = thing
    return is_places(places) and are_ties(ties, places)


def are_lists(thing, web):
    """Whether the thing, of whatever kind, is lists of the web."""
    check_web(web)
    return is_tuple_of(thing, web[0]) and all([are_hues(hues) for hues in thing])


def are_sizes(thing, web):
    """Whether the thing, of whatever kind, is sizes of the web."""
    check_web(web)
    return is_tuple_of(thing, web[0]) and all([is_size(size) for size in thing])


def is_choice(thing, web, lists):
    """Whether the thing, of whatever kind, is a choice of the web and the lists."""
    check_lists(web, lists)
    places, ties = web
    if not is_tuple_of(thing, places):
        return False
    # A truth is equal to a hue, so being in the list alone does not make it one.
    if not all([is_hue(hue) and hue in hues for hue, hues in zip(thing, lists)]):
        return False
    return all([thing[a] != thing[b] for a, b in ties])


def near(web, place):
    """The places tied to the place, a rising tuple."""
    check_web(web)
    places, ties = web
    if not is_place(place, places):
        raise NoNumber("no place of the web")
    return tuple([other for other in range(places) if (place, other) in ties or (other, place) in ties])


def sizes_of(web, lists):
    """The sizes that the lists have."""
    check_lists(web, lists)
    return tuple([len(hues) for hues in lists])


def check_web(thing):
    """Refuse what is no web."""
    if not is_web(thing):
        raise NoWeb("no web")


def check_lists(web, thing):
    """Refuse what is no web, then what is no lists of it."""
    if not are_lists(thing, web):
        raise NoLists("no lists of the web")


def check_sizes(web, thing):
    """Refuse what is no web, then what is no sizes of it."""
    if not are_sizes(thing, web):
        raise NoSizes("no sizes of the web")


def all_near(web):
    """The near places of each place, a list of tuples."""
    return [near(web, place) for place in range(web[0])]


def is_whole(thing):
    """Whether the thing is a whole number."""
    return isinstance(thing, int) and not isinstance(thing, bool)


def is_tuple_of(thing, many):
    """Whether the thing is a tuple of so many things."""
    return isinstance(thing, tuple) and len(thing) == many


def is_places(thing):
    """Whether the thing is a number of places that a web may have."""
    return is_whole(thing) and 1 <= thing <= MOST_PLACES


def is_place(thing, places):
    """Whether the thing is one of so many places."""
    return is_whole(thing) and 0 <= thing < places


def is_tie(thing, places):
    """Whether the thing is a tie between two of so many places."""
    if not is_tuple_of(thing, 2):
        return False
    a, b = thing
    return is_place(a, places) and is_place(b, places) and a < b


def are_ties(thing, places):
    """Whether the thing is ties between so many places, a rising tuple."""
    return isinstance(thing, tuple) and all([is_tie(tie, places) for tie in thing]) and rises(thing)


def is_hue(thing):
    """Whether the thing is a hue."""
    return is_whole(thing) and 0 <= thing <= GREATEST_HUE


def are_hues(thing):
    """Whether the thing is the hues of one place, a rising tuple."""
    if not isinstance(thing, tuple) or len(thing) > MOST_HUES:
        return False
    return all([is_hue(hue) for hue in thing]) and rises(thing)


def is_size(thing):
    """Whether the thing is the size of one place's list."""
    return is_whole(thing) and 0 <= thing <= GREATEST_SIZE


def rises(row):
    """Whether each thing in the tuple is greater than the one ahead; they must be of one kind."""
    return all([ahead < behind for ahead, behind in zip(row, row[1:])])
