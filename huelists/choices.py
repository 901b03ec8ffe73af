"""Choices of a web and lists: the first, how many, by number, and papers that there is none."""

from huelists.errors import NoChoice, NoNumber
from huelists.groups import ways_many
from huelists.webs import all_near, check_lists, is_choice, is_hue, is_place, is_tuple_of, is_whole

BARE = "bare"
BY = "by"


def first_choice(web, lists):
    """The first choice, as tuples are ordered; None where there is none."""
    check_lists(web, lists)
    if ways_many(web[1], lists) == 0:
        return None
    return numbered_choice(web, lists, 0)


def choices_many(web, lists):
    """How many choices there are."""
    check_lists(web, lists)
    return ways_many(web[1], lists)


def choice_at(web, lists, number):
    """The choice that has the number, from 0 on, as tuples are ordered."""
    check_lists(web, lists)
    if not is_whole(number) or not 0 <= number < ways_many(web[1], lists):
        raise NoNumber("no number of a choice")
    return numbered_choice(web, lists, number)


def number_of(web, lists, choice):
    """The number, from 0 on, of the choice, as tuples are ordered."""
    if not is_choice(choice, web, lists):
        raise NoChoice("no choice of the web and the lists")
    number = 0
    for place, hues in enumerate(lists):
        for hue in hues:
            if hue < choice[place]:
                number += count_begun(web, lists, choice[:place] + (hue,))
    return number


def begun_many(web, lists, begun):
    """How many choices begin with the hues of begun."""
    check_lists(web, lists)
    if not is_beginning(begun, web):
        raise NoNumber("no beginning of the web")
    return count_begun(web, lists, begun)


def is_none_paper(thing, web, lists):
    """Whether the thing, of whatever kind, is a paper of none for the web and the lists."""
    check_lists(web, lists)
    return is_paper_behind(thing, all_near(web), dict(enumerate(lists)))


def none_paper(web, lists):
    """Some paper of none, None where there is a choice."""
    check_lists(web, lists)
    if ways_many(web[1], lists) > 0:
        return None
    return paper_behind(all_near(web), dict(enumerate(lists)))


def is_beginning(thing, web):
    """Whether the thing is a tuple of no more hues than the web has places."""
    return isinstance(thing, tuple) and len(thing) <= web[0] and all([is_hue(hue) for hue in thing])


def numbered_choice(web, lists, number):
    """The choice that has the number, which must be one."""
    begun = ()
    ahead = number
    for hues in lists:
        for hue in hues:
            many = count_begun(web, lists, begun + (hue,))
            if ahead < many:
                begun = begun + (hue,)
                break
            ahead -= many
    return begun


def count_begun(web, lists, begun):
    """How many choices begin with the hues of begun."""
    narrowed = [tuple([one for one in hues if one == hue]) for hue, hues in zip(begun, lists)]
    return ways_many(web[1], tuple(narrowed) + lists[len(begun):])


def is_paper_behind(thing, nears, left):
    """Whether the thing is a paper of none, left being the hues that each place not fixed can still take."""
    if is_tuple_of(thing, 2):
        word, place = thing
        return word == BARE and is_left(place, nears, left) and left[place] == ()
    if not is_tuple_of(thing, 3):
        return False
    word, place, papers = thing
    if word != BY or not is_left(place, nears, left) or not is_tuple_of(papers, len(left[place])):
        return False
    for hue, paper in zip(left[place], papers):
        if not is_paper_behind(paper, nears, left_behind(nears, left, place, hue)):
            return False
    return True


def is_left(thing, nears, left):
    """Whether the thing is a place that is not fixed."""
    return is_place(thing, len(nears)) and thing in left


def paper_behind(nears, left):
    """Some paper of none, left being the hues that each place not fixed can still take; there must be no choice."""
    # The place with the fewest hues keeps papers small: of so many places left, one has fewer hues left than that.
    fewest, place = min([(len(left[other]), other) for other in left])
    if fewest == 0:
        return BARE, place
    papers = [paper_behind(nears, left_behind(nears, left, place, hue)) for hue in left[place]]
    return BY, place, tuple(papers)


def left_behind(nears, left, place, hue):
    """The hues that each place not fixed can still take when the place, too, is fixed to the hue."""
    behind = {}
    for other in left:
        if other in nears[place]:
            behind[other] = tuple([one for one in left[other] if one != hue])
        elif other != place:
            behind[other] = left[other]
    return behind
