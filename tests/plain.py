"""What the document says of webs, lists, orders and terms, gone through one by one; and webs and lists to ask of."""

import random
from itertools import combinations, permutations, product


def pairs(places):
    return tuple(combinations(range(places), 2))


def all_webs(places):
    """Each web of so many places."""
    return [(places, ties) for many in range(len(pairs(places)) + 1) for ties in combinations(pairs(places), many)]


def unlike_webs(places):
    """One web of each shape of so many places."""
    shapes = {}
    for web in all_webs(places):
        named = [
            tuple(sorted(tuple(sorted((names[a], names[b]))) for a, b in web[1]))
            for names in permutations(range(places))
        ]
        shapes.setdefault(min(named), web)
    return list(shapes.values())


def some_webs(many, seed, least=1, most=6, most_ties=15):
    """So many webs, the same each time, from no ties to all tied."""
    chance = random.Random(seed)
    webs = []
    for number in range(many):
        places = least + number % (most - least + 1)
        ties = chance.sample(pairs(places), chance.randint(0, min(most_ties, len(pairs(places)))))
        webs.append((places, tuple(sorted(ties))))
    return webs


def some_lists(web, chance, hues=5, longest=4):
    """Lists of the web: of so many hues in all, each of so many at most, rarely of none."""
    sizes = [min(hues, chance.choice([0] + 4 * list(range(1, longest + 1)))) for place in range(web[0])]
    return tuple(tuple(sorted(chance.sample(range(hues), size))) for size in sizes)


def choices(web, lists):
    """All choices, as tuples are ordered."""
    return [hues for hues in product(*lists) if all(hues[a] != hues[b] for a, b in web[1])]


def has_choice(web, lists, begun=()):
    """Whether a choice begins so: place by place."""
    at = len(begun)
    if at == web[0]:
        return True
    ahead = [begun[a] for a, b in web[1] if b == at]
    return any(has_choice(web, lists, begun + (hue,)) for hue in lists[at] if hue not in ahead)


def tied(web, place):
    return {a + b - place for a, b in web[1] if place in (a, b)}


def most_ties(web):
    return max(len(tied(web, place)) for place in range(web[0]))


def all_lists(sizes, lists=()):
    """All lists of these sizes, but for how their hues are named: those not seen ahead come in their order."""
    if len(lists) == len(sizes):
        yield lists
        return
    used = len({hue for hues in lists for hue in hues})
    size = sizes[len(lists)]
    for new in range(size + 1):
        for old in combinations(range(used), size - new):
            yield from all_lists(sizes, lists + (old + tuple(range(used, used + new)),))


def orders(web, sizes):
    """All orders of the web and the sizes."""
    return [
        order for order in permutations(range(web[0]))
        if all(sizes[place] > len(tied(web, place) & set(order[:at])) for at, place in enumerate(order))
    ]


def multiplied(web):
    """The product's terms, multiplied out tie by tie."""
    product_so_far = {(0,) * web[0]: 1}
    for a, b in web[1]:
        next_product = {}
        for powers, number in product_so_far.items():
            for place, sign in ((a, 1), (b, -1)):
                raised = list(powers)
                raised[place] += 1
                next_product[tuple(raised)] = next_product.get(tuple(raised), 0) + sign * number
        product_so_far = next_product
    return {powers: number for powers, number in product_so_far.items() if number}


def runs(web):
    """For all powers that runs have: how many even and how many odd runs have them."""
    found = {}
    for run in product((1, -1), repeat=len(web[1])):
        powers = [0] * web[0]
        for (a, b), way in zip(web[1], run):
            powers[a if way == 1 else b] += 1
        counts = found.setdefault(tuple(powers), [0, 0])
        counts[run.count(-1) % 2] += 1
    return {powers: tuple(counts) for powers, counts in found.items()}


def is_paper(thing, web, lists, fixed):
    """Whether a tuple of the right make is a paper of none behind the places fixed, read off the document."""
    place = thing[1]
    if place in fixed:
        return False
    barred = {fixed[other] for other in tied(web, place) if other in fixed}
    free = [hue for hue in lists[place] if hue not in barred]
    if thing[0] == "bare":
        return len(thing) == 2 and not free
    if len(thing) != 3 or len(thing[2]) != len(free):
        return False
    return all(is_paper(paper, web, lists, {**fixed, place: hue}) for hue, paper in zip(free, thing[2]))


def meet(tie, other):
    return bool(set(tie) & set(other))


def tie_choices(web, lists, begun=()):
    """All tie choices, as tuples are ordered."""
    at = len(begun)
    if at == len(web[1]):
        yield begun
        return
    barred = {hue for hue, tie in zip(begun, web[1]) if meet(tie, web[1][at])}
    for hue in lists[at]:
        if hue not in barred:
            yield from tie_choices(web, lists, begun + (hue,))


def some_tie_lists(web, chance, hues=5, longest=4, shortest=0):
    """Tie lists of the web: of so many hues in all, each of so many at least and at most."""
    sizes = [min(hues, chance.randint(shortest, longest)) for tie in web[1]]
    return tuple(tuple(sorted(chance.sample(range(hues), size))) for size in sizes)


def pieces(web):
    """The pieces, each a rising tuple, by their least places."""
    left, found = set(range(web[0])), []
    while left:
        piece = {min(left)}
        while True:
            wider = piece.union(*(tied(web, place) for place in piece))
            if wider == piece:
                break
            piece = wider
        found.append(tuple(sorted(piece)))
        left -= piece
    return found


def first_parts(web):
    """Each way to part the places in two, no two of one part tied, the least of each piece in the first."""
    found = []
    leasts = {piece[0] for piece in pieces(web)}
    for sides in product((0, 1), repeat=web[0]):
        if all(sides[a] != sides[b] for a, b in web[1]) and not any(sides[place] for place in leasts):
            found.append(tuple(place for place in range(web[0]) if sides[place] == 0))
    return found


def two_sided_webs(many, seed, least=1):
    """So many two-sided webs, the same each time, whose parts lie anyhow."""
    chance = random.Random(seed)
    webs = []
    for number in range(many):
        places = least + number % (7 - least)
        sides = [chance.randint(0, 1) for place in range(places)]
        able = [(a, b) for a, b in pairs(places) if sides[a] != sides[b]]
        ties = chance.sample(able, chance.choice((len(able), chance.randint(0, len(able)))))
        webs.append((places, tuple(sorted(ties))))
    return webs


def goes_round(web, run):
    """Whether places, one behind the other by ties so run, lead back to the first: those with no way out are struck."""
    ways = {(a, b) if way == 1 else (b, a) for (a, b), way in zip(web[1], run)}
    left = set(range(web[0]))
    while True:
        ends = {place for place in left if not any(a == place and b in left for a, b in ways)}
        if not ends:
            return bool(left)
        left -= ends


def named_lists(places, size, lists=()):
    """All lists of this size, each hue no greater than one more than the greatest ahead: tried out hue by hue."""
    if len(lists) == places:
        yield lists
        return
    for hues in combinations(range(places * size), size):
        greatest = max((hue for row in lists for hue in row), default=-1)
        for hue in hues:
            if hue > greatest + 1:
                break
            greatest = max(greatest, hue)
        else:
            yield from named_lists(places, size, lists + (hues,))


def rings(web):
    """Each ring, as the set of its ties."""
    found = set()
    for many in range(3, web[0] + 1):
        for row in permutations(range(web[0]), many):
            if row[0] == min(row):
                ties = {tuple(sorted(tie)) for tie in zip(row, row[1:] + row[:1])}
                if ties <= set(web[1]):
                    found.add(frozenset(ties))
    return found


def blocks(web):
    """The blocks, rising, each tie with all that some ring has with it."""
    all_rings = rings(web)
    found = {(place,) for place in range(web[0]) if not tied(web, place)}
    for tie in web[1]:
        together = {tie}.union(*(ring for ring in all_rings if tie in ring))
        found.add(tuple(sorted({place for other in together for place in other})))
    return sorted(found)


def is_plain_block(web, block):
    """Whether all places of the block are tied, or a ring of an odd number has all its places and ties."""
    within = {tie for tie in web[1] if set(tie) <= set(block)}
    if within == {tie for tie in combinations(block, 2)}:
        return True
    return len(block) % 2 == 1 and frozenset(within) in rings(web)
