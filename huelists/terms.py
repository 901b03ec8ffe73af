"""The terms of a web's product, by which there always is a choice, and the runs that they come from."""

from huelists.errors import NoNumber, TooMany
from huelists.webs import check_sizes, check_web, is_tuple_of, is_whole

MOST_TIES_HERE = 10


def terms(web):
    """The terms of the web's product: a dict that has for the powers of each its number."""
    check_web(web)
    check_few_ties(web)
    return term_numbers(web)


def term(web, powers):
    """The number of the term that has these powers, 0 where there is none."""
    even, odd = runs_many(web, powers)
    return even - odd


def is_term_paper(thing, web, sizes):
    """Whether the thing, of whatever kind, is a term paper of the web and the sizes."""
    check_sizes(web, sizes)
    check_few_ties(web)
    return are_powers(thing, web) and are_below(thing, sizes) and thing in term_numbers(web)


def term_for(web, sizes):
    """The first term paper, as tuples are ordered, None where there is none."""
    check_sizes(web, sizes)
    check_few_ties(web)
    return min([powers for powers in term_numbers(web) if are_below(powers, sizes)], default=None)


def runs_many(web, powers):
    """How many runs lead out of each place as often as its power tells: with an even number of -1, and an odd one."""
    check_web(web)
    if not are_powers(powers, web):
        raise NoNumber("no powers of the web")
    check_few_ties(web)
    return runs_by_powers(web).get(powers, (0, 0))


def check_few_ties(web):
    """Refuse a web of more ties than are taken here."""
    if len(web[1]) > MOST_TIES_HERE:
        raise TooMany("more than ten ties")


def are_powers(thing, web):
    """Whether the thing is a tuple with a whole number from 0 on for each place."""
    return is_tuple_of(thing, web[0]) and all([is_whole(power) and power >= 0 for power in thing])


def are_below(powers, sizes):
    """Whether each power is less than the place's size."""
    return all([power < size for power, size in zip(powers, sizes)])


def term_numbers(web):
    """The number of each term, by its powers."""
    runs = runs_by_powers(web)
    # Runs that are as often even as odd cancel out: there the product has no term.
    return {powers: even - odd for powers, (even, odd) in runs.items() if even != odd}


def runs_by_powers(web):
    """For all powers that runs have, how many have them with an even number of -1, and how many with an odd one."""
    places, ties = web
    runs = {(0,) * places: (1, 0)}
    for a, b in ties:
        longer = {}
        for powers, (even, odd) in runs.items():
            add_runs(longer, one_more(powers, a), even, odd)
            # Out of the greater place goes a -1 more, so that even and odd change sides.
            add_runs(longer, one_more(powers, b), odd, even)
        runs = longer
    return runs


def add_runs(counts, powers, even, odd):
    """Count so many even and odd runs more for the powers."""
    evens, odds = counts.get(powers, (0, 0))
    counts[powers] = (evens + even, odds + odd)


def one_more(powers, place):
    """The powers, that of the place greater by one."""
    return powers[:place] + (powers[place] + 1,) + powers[place + 1:]
