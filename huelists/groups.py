"""Ways to give things hues of their lists, paired ones unlike hues, counted without going through them one by one.

The things are numbers from 0 on. A group of them is a number that has a bit for each.
"""


def ways_many(pairs, lists):
    """How many ways there are to give each thing a hue of its list, the two of each pair unlike ones."""
    groups = unpaired_groups(pairs, len(lists))
    hues = sorted({hue for row in lists for hue in row})
    half = len(hues) // 2
    # By half of the hues far fewer groups are come to than by all of them, so each half goes by itself.
    ahead = ways_by(hues[:half], lists, groups)
    behind = ways_by(hues[half:], lists, groups)
    everything = (1 << len(lists)) - 1
    return sum([many * behind.get(everything - had, 0) for had, many in ahead.items()])


def unpaired_groups(pairs, many):
    """The groups of so many things that have no pair within; each pair has its lesser thing first."""
    barred = [0] * many
    for a, b in pairs:
        # Greater things come into a group behind lesser ones, so only these bar one.
        barred[b] |= 1 << a
    groups = [0]
    for thing in range(many):
        groups = groups + [group | (1 << thing) for group in groups if (group & barred[thing]) == 0]
    return groups


def ways_by(hues, lists, groups):
    """For each group the number of ways to give just its things a hue by these hues."""
    ways = {0: 1}
    for hue in hues:
        havers = sum([1 << thing for thing, row in enumerate(lists) if hue in row])
        ways = add_groups(ways, [group for group in groups if (group & havers) == group])
    return ways


def add_groups(ways, groups):
    """For each group of things with a hue the number of ways to it, when one of these groups takes a hue more."""
    more = {}
    for had, many in ways.items():
        for group in groups:
            if (had & group) == 0:
                more[had | group] = more.get(had | group, 0) + many
    return more
