"""Orders of a web and sizes, by which there always is a choice."""

from huelists.errors import NoOrder
from huelists.webs import all_near, check_sizes, check_web, is_place, is_tuple_of, sizes_of


def is_order(thing, web, sizes):
    """Whether the thing, of whatever kind, is an order of the web and the sizes."""
    check_sizes(web, sizes)
    if not are_all_places(thing, web[0]):
        return False
    nears = all_near(web)
    return all([sizes[place] > tied_many(nears, place, thing[:at]) for at, place in enumerate(thing)])


def order_for(web, sizes):
    """The order that is put together from behind, the least place that can go first; None where none is."""
    check_sizes(web, sizes)
    gone, left = let_go(web, sizes)
    if left:
        return None
    return tuple(gone[::-1])


def core(web, sizes):
    """The places that are left where none can go, a rising tuple."""
    check_sizes(web, sizes)
    gone, left = let_go(web, sizes)
    return tuple(left)


def choice_by(web, lists, order):
    """The choice in which, along the order, each place takes the least hue that is free for it."""
    sizes = sizes_of(web, lists)
    if not is_order(order, web, sizes):
        raise NoOrder("no order of the web and the sizes of the lists")
    nears = all_near(web)
    chosen = {}
    for place in order:
        held = [chosen[other] for other in nears[place] if other in chosen]
        chosen[place] = min([hue for hue in lists[place] if hue not in held])
    return tuple([chosen[place] for place in range(web[0])])


def narrowness(web):
    """The least size that, for all places, has an order."""
    check_web(web)
    size = 1
    while order_for(web, (size,) * web[0]) is None:
        size += 1
    return size


def are_all_places(thing, places):
    """Whether the thing is a tuple of so many places, each once."""
    if not is_tuple_of(thing, places) or not all([is_place(place, places) for place in thing]):
        return False
    return sorted(thing) == list(range(places))


def let_go(web, sizes):
    """The places that can go, as they go, and the places that are left where none can: two lists."""
    nears = all_near(web)
    gone = []
    left = list(range(web[0]))
    free = free_places(nears, sizes, left)
    while free:
        gone.append(free[0])
        left.remove(free[0])
        free = free_places(nears, sizes, left)
    return gone, left


def free_places(nears, sizes, left):
    """The places left whose size is greater than how many places left are tied to them."""
    return [place for place in left if sizes[place] > tied_many(nears, place, left)]


def tied_many(nears, place, others):
    """How many of the others are tied to the place."""
    return len([other for other in others if other in nears[place]])
