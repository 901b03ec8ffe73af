"""The blocks of a web, and whether there always is a choice with sizes that are as many as each place's ties."""

from huelists.changes import joined_groups, pieces
from huelists.webs import all_near, check_web


def blocks(web):
    """The blocks of the web, a list of rising tuples of places, rising."""
    check_web(web)
    ties = web[1]
    found = [(place,) for place, others in enumerate(all_near(web)) if not others]
    for numbers in joined_groups(pairs_on_rings(web), len(ties)):
        found.append(tuple(sorted({place for number in numbers for place in ties[number]})))
    return sorted(found)


def plain_blocks(web):
    """For each block, in their order, whether it is plain."""
    return [is_plain(web, block) for block in blocks(web)]


def near_sizes(web):
    """The number of its near places for each place, a tuple."""
    check_web(web)
    return tuple([len(others) for others in all_near(web)])


def always_near(web):
    """Whether there always is a choice with the near sizes."""
    return first_plain_piece(web) is None


def near_bar(web):
    """Some lists of the near sizes that have no choice, None where there always is one."""
    piece = first_plain_piece(web)
    if piece is None:
        return None
    barring = {place: () for place in piece}
    used = 0
    for block in blocks(web):
        if block[0] in piece:
            many = own_hues_many(web, block)
            for place in block:
                barring[place] = barring[place] + tuple(range(used, used + many))
            used += many
    return tuple([barring.get(place, tuple(range(size))) for place, size in enumerate(near_sizes(web))])


def pairs_on_rings(web):
    """The pairs of numbers of ties that have a place in common and are both in some ring."""
    places, ties = web
    pairs = []
    for place in range(places):
        # A ring through the place goes on from the one tie's other end to the other's, without the place itself.
        joined = joined_groups([tie for tie in ties if place not in tie], places)
        for group in joined:
            inner = [at for at, (a, b) in enumerate(ties) if a == place and b in group or b == place and a in group]
            pairs.extend([(inner[0], other) for other in inner[1:]])
    return pairs


def ties_within(web, block):
    """The ties of the web that are between two places of the block."""
    return [(a, b) for a, b in web[1] if a in block and b in block]


def is_plain(web, block):
    """Whether the block's places are all tied to one another, or one ring alone of an odd number of places."""
    many = len(block)
    ties_many = len(ties_within(web, block))
    if ties_many == many * (many - 1) // 2:
        return True
    # Each tie of a block of three places or more is in a ring, so with no more ties than places it is one ring alone.
    return ties_many == many and many % 2 == 1


def first_plain_piece(web):
    """The first piece that has plain blocks alone, None where there is none."""
    others = [block for block in blocks(web) if not is_plain(web, block)]
    for piece in pieces(web):
        if not any([block[0] in piece for block in others]):
            return piece
    return None


def own_hues_many(web, block):
    """How many hues of its own a plain block has: as many as each of its places has ties within it."""
    return len([tie for tie in ties_within(web, block) if block[0] in tie])
