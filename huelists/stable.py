"""Stable ones among ties of a two-sided web, and tie choices that come by them."""

from huelists.errors import NoNumber, NoRanks, Short
from huelists.tielists import check_tie_lists, first_part, first_tie_choice, meeting_pairs, width
from huelists.webs import is_place, is_tuple_of, is_whole, rises


def is_stable(thing, web, ranks, some):
    """Whether the thing, of whatever kind, is stable ones among some."""
    check_ranks(web, ranks)
    check_some(web, some)
    if not are_tie_numbers(thing, web) or not all([number in some for number in thing]):
        return False
    if any([one in thing and other in thing for one, other in meeting_pairs(web[1])]):
        return False
    ends = ends_of_ties(web)
    return all([number in thing or is_beaten(number, thing, ends, ranks) for number in some])


def stable_ones(web, ranks, some):
    """Some stable ones among some, a rising tuple of ties' numbers."""
    check_ranks(web, ranks)
    check_some(web, some)
    return stable_among(some, ends_of_ties(web), ranks)


def long_choice(web, lists):
    """Some tie choice of a two-sided web with tie lists that have as many hues as its width at least."""
    check_two_sided(web)
    check_tie_lists(web, lists)
    wide = width(web)
    if any([len(hues) < wide for hues in lists]):
        raise Short("a list of fewer hues than the width")
    ends = ends_of_ties(web)
    # With ranks less than the width, each hue of its list that a tie does not get goes to a tie that beats it, and
    # fewer ties than the width do: so its hues do not run out.
    ranks = first_tie_choice(web, (tuple(range(wide)),) * len(lists))
    chosen = {}
    for hue in sorted({one for hues in lists for one in hues}):
        free = [number for number, hues in enumerate(lists) if number not in chosen and hue in hues]
        for number in stable_among(free, ends, ranks):
            chosen[number] = hue
    return tuple([chosen[number] for number in range(len(lists))])


def check_two_sided(web):
    """Refuse what is no web, then a web that is not two-sided."""
    if first_part(web) is None:
        raise NoRanks("a web that is not two-sided")


def check_ranks(web, thing):
    """Refuse what is no web, then a web that is not two-sided and what is no ranks of it."""
    check_two_sided(web)
    if not are_ranks(thing, web):
        raise NoRanks("no ranks of the web")


def check_some(web, thing):
    """Refuse what is no rising tuple of ties' numbers."""
    if not are_tie_numbers(thing, web):
        raise NoNumber("no rising tuple of ties' numbers")


def are_ranks(thing, web):
    """Whether the thing is ranks of the two-sided web."""
    if not is_tuple_of(thing, len(web[1])) or not all([is_whole(rank) and rank >= 0 for rank in thing]):
        return False
    return all([thing[one] != thing[other] for one, other in meeting_pairs(web[1])])


def are_tie_numbers(thing, web):
    """Whether the thing is a rising tuple of ties' numbers."""
    many = len(web[1])
    return isinstance(thing, tuple) and all([is_place(number, many) for number in thing]) and rises(thing)


def ends_of_ties(web):
    """For each tie of a two-sided web its place in the first part, and that in the other."""
    first = first_part(web)
    return [(a, b) if a in first else (b, a) for a, b in web[1]]


def is_beaten(number, others, ends, ranks):
    """Whether one of the others beats the tie of the number, at either end."""
    return is_beaten_first(number, others, ends, ranks) or is_beaten_last(number, others, ends, ranks)


def is_beaten_first(number, others, ends, ranks):
    """Whether one of the others has, at the tie's place in the first part, a greater rank than it."""
    return any([ends[other][0] == ends[number][0] and ranks[other] > ranks[number] for other in others])


def is_beaten_last(number, others, ends, ranks):
    """Whether one of the others has, at the tie's place in the other part, a lesser rank than it."""
    return any([ends[other][1] == ends[number][1] and ranks[other] < ranks[number] for other in others])


def stable_among(some, ends, ranks):
    """Some stable ones among some.

    Each place in the first part asks by its tie of the greatest rank. Where several ask one place, all but that of the
    least rank are struck out; that one goes only for a lesser one still, so those struck out stay beaten.
    """
    left = list(some)
    while True:
        asking = [number for number in left if not is_beaten_first(number, left, ends, ranks)]
        struck = [number for number in asking if is_beaten_last(number, asking, ends, ranks)]
        if not struck:
            return tuple(asking)
        left = [number for number in left if number not in struck]
