"""Webs and lists changed: a hue taken, hues named anew, the pieces, a place left out, and what follows for sure."""

from huelists.errors import NoNumber
from huelists.webs import check_lists, check_web, is_hue, is_place, is_tuple_of, near


def taken(web, lists, place, hue):
    """The lists in which the place has this hue of its list alone, and the places tied to it have it no more."""
    check_lists(web, lists)
    if not is_place(place, web[0]) or not is_hue(hue) or hue not in lists[place]:
        raise NoNumber("no place of the web, or no hue of its list")
    nears = near(web, place)
    left = []
    for other, hues in enumerate(lists):
        if other == place:
            left.append((hue,))
        elif other in nears:
            left.append(tuple([one for one in hues if one != hue]))
        else:
            left.append(hues)
    return tuple(left)


def named(web, lists, names):
    """The lists with each hue k named by the hue at place k of the names."""
    check_lists(web, lists)
    many = max([hue for hues in lists for hue in hues], default=-1) + 1
    if not are_names(names, many):
        raise NoNumber("no tuple of as many unlike hues as there are to name")
    return tuple([tuple(sorted([names[hue] for hue in hues])) for hues in lists])


def pieces(web):
    """The pieces of the web, a list of rising tuples of places, by their least ones."""
    check_web(web)
    return joined_groups(web[1], web[0])


def without(web, lists, place):
    """The web without the place, and its lists: a tuple. Places above it are numbered by one less."""
    check_lists(web, lists)
    places, ties = web
    if places < 2 or not is_place(place, places):
        raise NoNumber("a web of one place, or no place of the web")
    kept = [(one_less(a, place), one_less(b, place)) for a, b in ties if place not in (a, b)]
    return (places - 1, tuple(kept)), lists[:place] + lists[place + 1:]


def sure(web, lists):
    """What follows for sure, a tuple: a list of steps (place, hue), and the lists behind them."""
    check_lists(web, lists)
    steps = []
    left = lists
    place = next_sure_place(left, [])
    while place is not None:
        hue = left[place][0]
        steps.append((place, hue))
        left = taken(web, left, place, hue)
        place = next_sure_place(left, [had for had, one in steps])
    return steps, left


def are_names(thing, many):
    """Whether the thing is a tuple of so many unlike hues."""
    return is_tuple_of(thing, many) and all([is_hue(hue) for hue in thing]) and len(set(thing)) == many


def joined_groups(pairs, many):
    """So many things, numbers from 0 on, in groups that pairs join: a list of rising tuples, by their least ones."""
    groups = [(thing,) for thing in range(many)]
    for a, b in pairs:
        joined = [thing for group in groups if a in group or b in group for thing in group]
        groups = [group for group in groups if a not in group and b not in group] + [tuple(joined)]
    return sorted([tuple(sorted(group)) for group in groups])


def one_less(other, place):
    """The number of the other place where the place is left out."""
    return other - 1 if other > place else other


def next_sure_place(lists, had):
    """The least place that was not had yet and has one hue alone; None where none is, or a list has no hue."""
    if () in lists:
        return None
    alone = [place for place, hues in enumerate(lists) if len(hues) == 1 and place not in had]
    return min(alone, default=None)
