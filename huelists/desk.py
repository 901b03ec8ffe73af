"""A desk that keeps a web and lists, and is told lines."""

from huelists.blocks import always_near
from huelists.changes import pieces, sure, taken
from huelists.choices import choices_many, first_choice
from huelists.counts import powers_of
from huelists.errors import NoLine, NoNumber
from huelists.texts import read_hues, read_number, show
from huelists.tielists import width
from huelists.webs import are_hues, is_hue, is_place, is_places

BACK = "back"
DONE = "ok"
NONE = "none"
# For the first word of each deed what is written behind it.
KINDS = {
    "web": ("places",),
    "tie": ("place", "place"),
    "cut": ("place", "place"),
    "list": ("place", "hues"),
    "take": ("place", "hue"),
}


def read_word(kind, word):
    """What the word writes where one of this kind is due, None where it writes no such thing."""
    if kind == "hues":
        hues = read_hues(word)
        return hues if are_hues(hues) else None
    number = read_number(word)
    if kind == "places" and not is_places(number) or kind == "hue" and not is_hue(number):
        return None
    # A number for a place need be none of the web's to be a word as told.
    return number


def set_places(web, lists, places):
    """A web of so many places without ties, and lists without hues."""
    return (places, ()), ((),) * places


def set_tie(web, lists, one, other):
    """The web in which the two places, not tied so far, are tied; and the lists."""
    tie = tie_between(web, one, other)
    if tie in web[1]:
        raise NoNumber("two places that are tied")
    return (web[0], tuple(sorted(web[1] + (tie,)))), lists


def cut_tie(web, lists, one, other):
    """The web in which the two places, tied so far, are not; and the lists."""
    tie = tie_between(web, one, other)
    if tie not in web[1]:
        raise NoNumber("two places that are not tied")
    return (web[0], tuple([kept for kept in web[1] if kept != tie])), lists


def set_list(web, lists, place, hues):
    """The web, and the lists in which the place has these hues."""
    if not is_place(place, web[0]):
        raise NoNumber("no place of the web")
    return web, lists[:place] + (hues,) + lists[place + 1:]


def take_hue(web, lists, place, hue):
    """The web, and the lists in which the place takes the hue."""
    return web, taken(web, lists, place, hue)


def tie_between(web, one, other):
    """The tie of two unlike places of the web, in whichever order they are told."""
    if not is_place(one, web[0]) or not is_place(other, web[0]) or one == other:
        raise NoNumber("no two places of the web")
    return min(one, other), max(one, other)


def spaced(numbers):
    """The numbers with a blank between each two."""
    return " ".join([str(number) for number in numbers])


def tell_web(web, lists):
    """The text of the web and the lists."""
    return show(web, lists)


def tell_choice(web, lists):
    """The first choice."""
    choice = first_choice(web, lists)
    return NONE if choice is None else spaced(choice)


def tell_many(web, lists):
    """How many choices there are."""
    return str(choices_many(web, lists))


def tell_sure(web, lists):
    """The steps that follow for sure."""
    steps, left = sure(web, lists)
    return " ".join([f"{place}={hue}" for place, hue in steps]) if steps else NONE


def tell_pieces(web, lists):
    """How many pieces there are."""
    return str(len(pieces(web)))


def tell_powers(web, lists):
    """The numbers of the sum of powers."""
    return spaced(powers_of(web))


def tell_width(web, lists):
    """The width."""
    return str(width(web))


def tell_near(web, lists):
    """Whether there always is a choice with the near sizes."""
    return "yes" if always_near(web) else "no"


DEEDS = {"web": set_places, "tie": set_tie, "cut": cut_tie, "list": set_list, "take": take_hue}
ANSWERS = {
    "web": tell_web,
    "choice": tell_choice,
    "many": tell_many,
    "sure": tell_sure,
    "pieces": tell_pieces,
    "powers": tell_powers,
    "width": tell_width,
    "near": tell_near,
}


def read_line(line):
    """The first word of the line, and a list of what is written behind it."""
    if not isinstance(line, str):
        raise NoLine("no text")
    word, *rest = line.split(" ")
    if not rest and (word == BACK or word in ANSWERS):
        return word, []
    if word not in KINDS or len(rest) != len(KINDS[word]):
        raise NoLine("no line that a desk is told")
    handed = [read_word(kind, part) for kind, part in zip(KINDS[word], rest)]
    if None in handed:
        raise NoLine("a word that is not as told")
    return word, handed


class Desk:
    """A desk: it keeps a web and lists, at first one place with no hues, and all that was done."""

    def __init__(self):
        self.web = (1, ())
        self.lists = ((),)
        self.past = []

    def say(self, line):
        """Do what the line tells, or answer what it asks: a text."""
        word, handed = read_line(line)
        if word == BACK:
            self.undo()
            return DONE
        if handed:
            self.do_deed(word, handed)
            return DONE
        answer = ANSWERS[word]
        return answer(self.web, self.lists)

    def do_deed(self, word, handed):
        """Do the deed, so that it can be undone; where it is refused nothing is changed."""
        deed = DEEDS[word]
        web, lists = deed(self.web, self.lists, *handed)
        self.past.append((self.web, self.lists))
        self.web = web
        self.lists = lists

    def undo(self):
        """Undo the last deed that stands."""
        if not self.past:
            raise NoNumber("no deed to undo")
        self.web, self.lists = self.past.pop()
