"""How many choices there are where all places have one list, as a sum of powers of its length."""

from huelists.errors import NoNumber
from huelists.webs import all_near, check_web, is_whole


def powers_of(web):
    """The numbers of the sum of powers, a tuple; that at place k goes with q taken k times."""
    check_web(web)
    places = web[0]
    groups_many = [len(groups) for groups in partings(web)]
    numbers = [0] * (places + 1)
    # The groups of a parting get unlike hues: the first one of q, the next one of q - 1, and so on.
    unlike = [1]
    for many in range(1, places + 1):
        unlike = times_less(unlike, many - 1)
        for power, number in enumerate(unlike):
            numbers[power] += groups_many.count(many) * number
    return tuple(numbers)


def count_at(web, q):
    """The worth of the sum of powers at q."""
    numbers = powers_of(web)
    if not is_whole(q):
        raise NoNumber("no whole number")
    worth = 0
    for number in numbers[::-1]:
        worth = worth * q + number
    return worth


def no_rounds_many(web):
    """How many runs of the web don't go round."""
    return abs(count_at(web, -1))


def partings(web):
    """Each way to part the places into groups of which no two places are tied: a list of tuples of groups."""
    nears = all_near(web)
    found = [()]
    for place in range(web[0]):
        longer = []
        for groups in found:
            longer.append(groups + ((place,),))
            for at, group in enumerate(groups):
                if not any([other in nears[place] for other in group]):
                    longer.append(groups[:at] + (group + (place,),) + groups[at + 1:])
        found = longer
    return found


def times_less(numbers, less):
    """The numbers of a sum of powers of q, taken q times less so many times."""
    raised = [0] + numbers
    return [up - less * same for up, same in zip(raised, numbers + [0])]
