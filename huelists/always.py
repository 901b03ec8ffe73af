"""Whether there is a choice whatever the lists, if only they are so long; and lists that bar it."""

from huelists.choices import choices_many
from huelists.errors import TooMany
from huelists.orders import core
from huelists.webs import all_near, are_lists, check_sizes, check_web, sizes_of

MOST_PLACES_HERE = 5


def always(web, sizes):
    """Whether there is a choice for all lists of these sizes."""
    return bar_for(web, sizes) is None


def is_bar(thing, web, sizes):
    """Whether the thing, of whatever kind, is lists of these sizes that have no choice."""
    check_sizes(web, sizes)
    check_few_places(web)
    return are_lists(thing, web) and sizes_of(web, thing) == sizes and choices_many(web, thing) == 0


def bar_for(web, sizes):
    """Some lists of these sizes that have no choice, None where there always is one."""
    check_sizes(web, sizes)
    check_few_places(web)
    # What is not in the core can take its hue last, whatever the lists, so it neither bars a choice nor helps.
    inner = core(web, sizes)
    found = barring_lists([sizes[place] for place in inner], ties_ahead(web, inner), (), [()])
    if found is None:
        return None
    barring = dict(zip(inner, found))
    return tuple([barring.get(place, tuple(range(size))) for place, size in enumerate(sizes)])


def least_length(web):
    """The least size that, for all places, always has a choice."""
    check_web(web)
    check_few_places(web)
    size = 1
    while not always(web, (size,) * web[0]):
        size += 1
    return size


def hues_many(web):
    """The least number of hues that have a choice where all places have the same ones."""
    check_web(web)
    check_few_places(web)
    many = 1
    while choices_many(web, (tuple(range(many)),) * web[0]) == 0:
        many += 1
    return many


def check_few_places(web):
    """Refuse a web of more places than are taken here."""
    if web[0] > MOST_PLACES_HERE:
        raise TooMany("more than five places")


def ties_ahead(web, inner):
    """For each place of inner the numbers, within inner, of the places ahead of it that are tied to it."""
    nears = all_near(web)
    return [[k for k, other in enumerate(inner[:at]) if other in nears[place]] for at, place in enumerate(inner)]


def barring_lists(sizes, aheads, lists, choices):
    """Lists of these sizes that have no choice and begin with the lists told, whose choices are told; else None.

    No size must be greater than the ties of its place: then fewer hues than places are enough to bar a choice.
    """
    at = len(lists)
    if at == len(sizes):
        return None if choices else lists
    for hues in lists_to_try(lists, sizes[at], len(sizes) - 1):
        found = barring_lists(sizes, aheads, lists + (hues,), longer_choices(choices, hues, aheads[at]))
        if found is not None:
            return found
    return None


def longer_choices(choices, hues, ahead):
    """The choices with one of the hues more, unlike those at the places told."""
    longer = []
    for choice in choices:
        held = [choice[k] for k in ahead]
        longer.extend([choice + (hue,) for hue in hues if hue not in held])
    return longer


def lists_to_try(lists, size, most):
    """The lists of this size, behind the lists told, over so many hues from 0 on at most.

    How hues are named changes nothing, so those that are in no list ahead come in just in their order.
    """
    used = max([hue for hues in lists for hue in hues], default=-1) + 1
    found = []
    for new in range(min(size, most - used) + 1):
        fresh = tuple(range(used, used + new))
        found.extend([old + fresh for old in hues_of(used, size - new)])
    return found


def hues_of(many, size):
    """All rising tuples of this size of the hues from 0 on, so many of them."""
    if size == 0:
        return [()]
    found = []
    for last in range(size - 1, many):
        found.extend([ahead + (last,) for ahead in hues_of(last, size - 1)])
    return found
