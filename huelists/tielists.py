"""Lists of hues for ties, and tie choices; a web's width, and the first part of a two-sided web."""

from huelists.errors import NoLists
from huelists.groups import ways_many
from huelists.webs import all_near, are_hues, check_web, is_hue, is_tuple_of


def are_tie_lists(thing, web):
    """Whether the thing, of whatever kind, is tie lists of the web."""
    check_web(web)
    return is_tuple_of(thing, len(web[1])) and all([are_hues(hues) for hues in thing])


def is_tie_choice(thing, web, lists):
    """Whether the thing, of whatever kind, is a tie choice of the web and the tie lists."""
    check_tie_lists(web, lists)
    if not is_tuple_of(thing, len(lists)):
        return False
    # A truth is equal to a hue, so being in the list alone does not make it one.
    if not all([is_hue(hue) and hue in hues for hue, hues in zip(thing, lists)]):
        return False
    return all([thing[one] != thing[other] for one, other in meeting_pairs(web[1])])


def first_tie_choice(web, lists):
    """The first tie choice, as tuples are ordered; None where there is none."""
    check_tie_lists(web, lists)
    ties = web[1]
    left = lists
    chosen = []
    for at, tie in enumerate(ties):
        hue = first_hue(tie, ties[at + 1:], left)
        if hue is None:
            return None
        chosen.append(hue)
        left = left_behind_tie(tie, hue, ties[at + 1:], left)
    return tuple(chosen)


def tie_choices_many(web, lists):
    """How many tie choices there are."""
    check_tie_lists(web, lists)
    return ways_many(meeting_pairs(web[1]), lists)


def width(web):
    """The greatest number of ties at a place, 0 without ties."""
    check_web(web)
    return max([len(others) for others in all_near(web)])


def first_part(web):
    """The places on the side of their piece's least place, a rising tuple; None of a web that is not two-sided."""
    check_web(web)
    sides = sides_by_ties(all_near(web))
    if any([sides[a] == sides[b] for a, b in web[1]]):
        return None
    return tuple([place for place in range(web[0]) if sides[place] == 0])


def check_tie_lists(web, thing):
    """Refuse what is no web, then what is no tie lists of it."""
    if not are_tie_lists(thing, web):
        raise NoLists("no tie lists of the web")


def do_meet(tie, other):
    """Whether the two ties have a place in common."""
    return tie[0] in other or tie[1] in other


def meeting_pairs(ties):
    """The pairs of numbers, from 0 on, of ties that have a place in common."""
    many = len(ties)
    return [(one, other) for one in range(many) for other in range(one + 1, many) if do_meet(ties[one], ties[other])]


def first_hue(tie, behind, left):
    """The least hue that leaves the ties behind the tie a tie choice, None where none does.

    Left are the hues that the tie, and those behind it, can still take.
    """
    pairs = meeting_pairs(behind)
    for hue in left[0]:
        if ways_many(pairs, left_behind_tie(tie, hue, behind, left)) > 0:
            return hue
    return None


def left_behind_tie(tie, hue, behind, left):
    """The hues that the ties behind the tie can still take where it has the hue."""
    rest = []
    for other, hues in zip(behind, left[1:]):
        rest.append(tuple([one for one in hues if one != hue or not do_meet(tie, other)]))
    return rest


def sides_by_ties(nears):
    """A side, 0 or 1, for each place: 0 for the least of a piece, and on from place to place the other one each."""
    sides = {}
    for least in range(len(nears)):
        sides.setdefault(least, 0)
        waiting = [least]
        while waiting:
            place = waiting.pop()
            for other in nears[place]:
                if other not in sides:
                    sides[other] = 1 - sides[place]
                    waiting.append(other)
    return sides
