"""A web and lists of it, written as a text and read again."""

from huelists.errors import NoText
from huelists.webs import are_hues, check_lists, is_places, is_tie

FIGURES = "0123456789"
MOST_FIGURES = 30
ENDS_TIES = ":"
NO_HUES = "-"


def show(web, lists):
    """The text of the web and the lists."""
    check_lists(web, lists)
    places, ties = web
    tie_words = [f"{a}-{b}" for a, b in ties]
    hue_words = [show_hues(hues) for hues in lists]
    return " ".join([str(places), *tie_words, ENDS_TIES, *hue_words])


def show_hues(hues):
    """The word for one place's hues."""
    if not hues:
        return NO_HUES
    return ",".join([str(hue) for hue in hues])


def read(text):
    """The web and the lists that the text writes, a tuple."""
    if not isinstance(text, str):
        raise NoText(0)
    words = text.split(" ")
    places = read_number(words[0])
    if not is_places(places):
        raise NoText(0)
    ties = read_ties(words, places)
    lists = read_lists(words, len(ties) + 2, places)
    return (places, ties), lists


def read_ties(words, places):
    """The ties that stand from word 1 up to the word that ends them."""
    ties = []
    at = 1
    while at < len(words) and words[at] != ENDS_TIES:
        tie = read_tie(words[at])
        if not is_tie(tie, places) or ties and tie <= ties[-1]:
            raise NoText(at)
        ties.append(tie)
        at += 1
    if at == len(words):
        raise NoText(at)
    return tuple(ties)


def read_lists(words, start, places):
    """The lists of all places, whose words stand from start on, up to the end."""
    lists = []
    for at in range(start, start + places):
        if at == len(words):
            raise NoText(at)
        hues = read_hues(words[at])
        if not are_hues(hues):
            raise NoText(at)
        lists.append(hues)
    if len(words) > start + places:
        raise NoText(start + places)
    return tuple(lists)


def read_tie(word):
    """A tuple of the two numbers of a tie's word, None for each that is not written."""
    first, dash, second = word.partition("-")
    return read_number(first), read_number(second)


def read_hues(word):
    """A tuple of the numbers in a word of hues, None for each that is not written."""
    if word == NO_HUES:
        return ()
    return tuple([read_number(part) for part in word.split(",")])


def read_number(word):
    """The number that the word writes by figures, None where it writes none."""
    # Python itself refuses to turn very long words into numbers, so these are kept from it.
    if not 1 <= len(word) <= MOST_FIGURES:
        return None
    if not all([sign in FIGURES for sign in word]):
        return None
    if word[0] == "0" and word != "0":
        return None
    return int(word)
