"""Promises 101 and 102: a desk that is told lines."""

import random
import unittest

from huelists.blocks import always_near
from huelists.changes import sure, taken
from huelists.counts import powers_of
from huelists.desk import Desk
from huelists.errors import HueError, NoLine, NoNumber
from huelists.texts import read, show
from huelists.tielists import width
from tests import plain
from tests.kinds import ODD

ASKS = ("web", "choice", "many", "sure", "pieces", "powers", "width", "near")
THIRTY = "9" * 30
THIRTY_ONE = "1" + "0" * 30

# Lines that are none, whatever the web.
NO_LINES = (
    "", " ", "  ", "\n", "\t", "ok", "none", "yes", "no", "webs", "we", "undo", "0", "1", "-", ":",
    "web 0", "web 7", "web 8", "web 10", "web 60", "web -1", "web 03", "web 00", "web +3", "web 3.0", "web three",
    "web N", "web " + THIRTY, "web " + THIRTY_ONE, "web 1 2", "web 3 3", "web 3 0-1", "web ", " web", "web  3",
    "web 3 ",
    " web 3", "Web", "WEB", "Web 3", "web\t3", "web\n", "web 3\n", "web,3", "web3", "web -", "web 1,2",
    "tie", "tie 0", "tie 0 1 2", "tie 0  1", "tie  0 1", "tie 0 1 ", " tie 0 1", "Tie 0 1", "tIE 0 1", "tie 0-1",
    "tie 0,1", "tie 00 1", "tie 0 01", "tie 0 -1", "tie -1 0", "tie -0 1", "tie a b", "tie A B", "tie 0 " + THIRTY_ONE,
    "tie " + THIRTY_ONE + " 0", "tie +0 1", "tie 0 1.0", "tie 0\t1", "tie 0 1\n", "tie 0 -", "tie - -", "tie 0 x",
    "cut", "cut 0", "cut 0 1 2", "cut 0  1", "cut 0 1 ", " cut 0 1", "Cut 0 1", "cut 0-1", "cut 00 1", "cut 0 01",
    "cut 0 -1", "cut a b", "cut 0 " + THIRTY_ONE, "cut " + THIRTY_ONE + " 0", "cut 0\t1", "cut 0 1\n",
    "list", "list 0", "list 0 1 2", "list 0 1, 2", "list 0 ", "list 0  1", "list  0 1", "list 0 1 ", " list 0 1",
    "List 0 1", "list 00 1", "list -1 1", "list a 1", "list 0 a", "list 0 100", "list 0 0,100", "list 0 " + THIRTY,
    "list 0 " + THIRTY_ONE, "list " + THIRTY_ONE + " 1", "list 0 1,0", "list 0 0,0", "list 0 1,1", "list 0 0,2,1",
    "list 0 0,1,2,3,4,5,6,7,8", "list 0 ,", "list 0 0,", "list 0 ,0", "list 0 0,,1", "list 0 --", "list 0 -,0",
    "list 0 0,-", "list 0 -1", "list 0 0,-1", "list 0 01", "list 0 00", "list 0 0,01", "list 0 +1", "list 0 1;2",
    "list 0 1-2", "list 0 0,1\n", "list 0\t0", "list - 0", "list - -", "list 0 none", "list 0,1 0",
    "take", "take 0", "take 0 1 2", "take 0  1", "take 0 1 ", " take 0 1", "Take 0 1", "take 00 1", "take 0 01",
    "take -1 0", "take 0 -1", "take 0 -", "take 0 100", "take 0 999", "take 0 " + THIRTY, "take 0 " + THIRTY_ONE,
    "take " + THIRTY_ONE + " 0", "take a 0", "take 0 a", "take 0 0,1", "take 0=1", "take 0,1 0", "take 0 1\n",
    "back 1", "back 0", "back ", " back", "Back", "BACK", "back back", "back\n", "backs",
) + tuple(word + " " for word in ASKS) + tuple(" " + word for word in ASKS) + tuple(
    word + " 9" for word in ASKS) + tuple(word.upper() for word in ASKS) + tuple(
    word.capitalize() for word in ASKS) + tuple(word + "\n" for word in ASKS)

# No texts, and texts that are no lines, of whatever kind; all of ODD is of one or the other kind.
OF_WHATEVER_KIND = ODD + (0, 3, ("web",), ["web"], {"web": 3}, ("web", 3), ["tie", "0", "1"], ("tie", 0, 1))


class Told(unittest.TestCase):
    def setUp(self):
        self.desk = Desk()

    def done(self, *lines):
        for line in lines:
            self.assertEqual(self.desk.say(line), "ok", line)

    def holds(self, text):
        told = self.desk.say("web")
        self.assertIs(type(told), str)
        self.assertEqual(told, text)

    def refused(self, error, line):
        ahead = [self.desk.say(word) for word in ASKS]
        with self.assertRaises(HueError) as caught:
            self.desk.say(line)
        self.assertIs(type(caught.exception), error, line)
        self.assertEqual([self.desk.say(word) for word in ASKS], ahead, line)


class Deeds(Told):
    def test_at_first(self):
        self.holds("1 : -")

    def test_web(self):
        for places in range(1, 7):
            self.done(f"web {places}")
            self.holds(f"{places} :" + " -" * places)

    def test_web_leaves_nothing_of_the_last(self):
        self.done("web 3", "tie 0 1", "list 2 5,6", "web 3")
        self.holds("3 : - - -")
        self.done("tie 0 1", "web 2")
        self.holds("2 : - -")

    def test_tie_in_either_order(self):
        self.done("web 4", "tie 2 3")
        self.holds("4 2-3 : - - - -")
        self.done("tie 1 0")
        self.holds("4 0-1 2-3 : - - - -")
        self.done("tie 3 0")
        self.holds("4 0-1 0-3 2-3 : - - - -")
        for line in ("tie 0 1", "tie 1 0", "tie 0 3", "tie 3 0", "tie 3 2"):
            self.refused(NoNumber, line)

    def test_tie_all(self):
        self.done("web 6")
        for a, b in plain.pairs(6)[::-1]:
            self.done(f"tie {b} {a}")
        self.holds("6 " + " ".join(f"{a}-{b}" for a, b in plain.pairs(6)) + " : - - - - - -")
        for a, b in plain.pairs(6):
            self.refused(NoNumber, f"tie {a} {b}")

    def test_cut(self):
        self.done("web 4", "tie 0 1", "tie 1 2", "tie 2 3", "list 1 4", "cut 1 2")
        self.holds("4 0-1 2-3 : - 4 - -")
        self.refused(NoNumber, "cut 1 2")
        self.refused(NoNumber, "cut 0 3")
        self.done("cut 3 2")
        self.holds("4 0-1 : - 4 - -")
        self.refused(NoNumber, "cut 2 3")
        self.done("cut 0 1")
        self.holds("4 : - 4 - -")
        self.refused(NoNumber, "cut 0 1")
        self.done("tie 0 1")
        self.holds("4 0-1 : - 4 - -")

    def test_list(self):
        self.done("web 2", "list 0 0", "list 1 1,2,99")
        self.holds("2 : 0 1,2,99")
        self.done("list 0 -", "list 1 0,1,2,3,4,5,6,7")
        self.holds("2 : - 0,1,2,3,4,5,6,7")
        self.done("list 1 92,93,94,95,96,97,98,99")
        self.holds("2 : - 92,93,94,95,96,97,98,99")

    def test_take(self):
        self.done("web 3", "tie 0 1", "list 0 0,1", "list 1 0,1", "list 2 0,1", "take 0 1")
        self.holds("3 0-1 : 1 0 0,1")
        self.done("take 0 1", "take 1 0", "take 2 0")
        self.holds("3 0-1 : 1 0 0")
        for line in ("take 0 0", "take 1 1", "take 2 99", "take 3 0"):
            self.refused(NoNumber, line)

    def test_take_that_leaves_a_list_bare(self):
        self.done("web 2", "tie 0 1", "list 0 7", "list 1 7", "take 1 7")
        self.holds("2 0-1 : - 7")
        self.refused(NoNumber, "take 0 7")

    def test_no_place_or_both_one(self):
        self.done("web 3", "tie 0 1", "list 0 1")
        for line in ("tie 0 3", "tie 3 0", "tie 3 4", "tie 0 6", "tie 0 0", "tie 2 2", "tie 3 3", "cut 0 3", "cut 3 0",
                     "cut 1 1", "cut 0 0", "cut 5 6", "list 3 0", "list 6 -", "take 3 1", "take 6 0", "take 1 1"):
            self.refused(NoNumber, line)
        for number in ("3", "10", "99", "100", "1" + "0" * 29, THIRTY):
            for line in ("tie 0 A", "tie A 0", "tie A A", "cut 0 A", "cut A 0", "cut A A", "list A 1", "list A -",
                         "take A 1"):
                self.refused(NoNumber, line.replace("A", number))

    def test_of_one_place(self):
        for line in ("tie 0 0", "tie 0 1", "cut 0 0", "cut 0 1", "take 0 0", "list 1 0", "back"):
            self.refused(NoNumber, line)
        self.done("list 0 5", "take 0 5")
        self.holds("1 : 5")


class Back(Told):
    def test_where_no_deed_stands(self):
        self.refused(NoNumber, "back")
        self.done("web 2", "back")
        self.refused(NoNumber, "back")
        self.holds("1 : -")

    def test_over_every_kind_of_deed(self):
        deeds = ("web 3", "tie 2 0", "tie 0 1", "list 0 0,1", "list 1 0,1,2", "list 2 1", "take 0 1", "cut 0 2",
                 "list 1 -", "web 2", "list 0 9", "take 0 9", "web 6", "tie 5 4", "cut 4 5")
        texts = [self.desk.say("web")]
        for deed in deeds:
            self.done(deed)
            texts.append(self.desk.say("web"))
        for text in texts[-2::-1]:
            self.done("back")
            self.holds(text)
        self.refused(NoNumber, "back")

    def test_deeds_that_change_nothing_stand_too(self):
        self.done("list 0 5", "list 0 5", "take 0 5", "web 1", "web 1", "list 0 -")
        for text in ("1 : -", "1 : -", "1 : 5", "1 : 5", "1 : 5", "1 : -"):
            self.done("back")
            self.holds(text)
        self.refused(NoNumber, "back")

    def test_back_is_not_undone_itself(self):
        self.done("web 2", "web 3", "back")
        self.holds("2 : - -")
        self.done("back")
        self.holds("1 : -")

    def test_as_if_it_had_not_been_told(self):
        self.done("web 2", "tie 0 1", "back", "tie 1 0")
        self.holds("2 0-1 : - -")
        self.done("back", "list 0 1", "back")
        self.holds("2 : - -")
        self.refused(NoNumber, "cut 0 1")

    def test_what_is_refused_or_asked_is_no_deed(self):
        self.done("web 2")
        self.refused(NoNumber, "cut 0 1")
        self.refused(NoLine, "cut 0")
        for word in ASKS:
            self.desk.say(word)
        self.done("back")
        self.holds("1 : -")
        self.refused(NoNumber, "back")

    def test_many_in_a_row(self):
        texts = []
        for number in range(300):
            texts.append(self.desk.say("web"))
            self.done(f"list 0 {number % 100}")
        for text in texts[::-1]:
            self.done("back")
            self.holds(text)
        self.refused(NoNumber, "back")


class Asked(Told):
    def told(self, line):
        answer = self.desk.say(line)
        self.assertIs(type(answer), str)
        return answer

    def test_at_first(self):
        answers = [self.told(word) for word in ASKS]
        self.assertEqual(answers, ["1 : -", "none", "0", "none", "1", "0 1", "0", "no"])

    def test_one_place_with_hues(self):
        self.done("list 0 7,9")
        answers = [self.told(word) for word in ASKS]
        self.assertEqual(answers, ["1 : 7,9", "7", "2", "none", "1", "0 1", "0", "no"])

    def test_ring_of_four(self):
        self.done("web 4", "tie 0 1", "tie 1 2", "tie 2 3", "tie 3 0")
        for place in range(4):
            self.done(f"list {place} 0,1")
        answers = [self.told(word) for word in ASKS]
        due = ["4 0-1 0-3 1-2 2-3 : 0,1 0,1 0,1 0,1", "0 1 0 1", "2", "none", "1", "0 -3 6 -4 1", "2", "yes"]
        self.assertEqual(answers, due)
        self.done("list 2 1")
        self.assertEqual([self.told(word) for word in ("choice", "many", "sure")],
                         ["1 0 1 0", "1", "2=1 1=0 0=1 3=0"])

    def test_path_for_sure(self):
        self.done("web 3", "tie 0 1", "tie 1 2", "list 0 0", "list 1 0,1", "list 2 1,99")
        self.assertEqual(self.told("sure"), "0=0 1=1 2=99")
        self.assertEqual(self.told("choice"), "0 1 99")
        self.done("list 2 1")
        self.assertEqual(self.told("sure"), "0=0 1=1")
        self.assertEqual(self.told("choice"), "none")
        self.assertEqual(self.told("many"), "0")

    def test_six_places(self):
        self.done("web 6")
        for place in range(6):
            self.done(f"list {place} 0,1,2,3,4,5,6,7")
        self.assertEqual([self.told(word) for word in ("many", "pieces", "width", "near")],
                         [str(8 ** 6), "6", "0", "no"])
        self.assertEqual(self.told("powers"), "0 0 0 0 0 0 1")
        for a, b in plain.pairs(6):
            self.done(f"tie {a} {b}")
        self.assertEqual([self.told(word) for word in ("many", "pieces", "width", "near")], ["20160", "1", "5", "no"])
        self.assertEqual(self.told("powers"), "0 -120 274 -225 85 -15 1")
        self.assertEqual(self.told("choice"), "0 1 2 3 4 5")

    def test_as_the_functions_tell(self):
        chance = random.Random(101)
        for web in plain.some_webs(60, 101):
            lists = plain.some_lists(web, chance, 4, 3)
            self.done(f"web {web[0]}")
            for a, b in web[1]:
                self.done(f"tie {a} {b}" if chance.random() < 0.5 else f"tie {b} {a}")
            for place, hues in enumerate(lists):
                self.done(f"list {place} " + (",".join(map(str, hues)) or "-"))
            choices = plain.choices(web, lists)
            self.holds(show(web, lists))
            self.assertEqual(read(self.told("web")), (web, lists))
            self.assertEqual(self.told("choice"), " ".join(map(str, choices[0])) if choices else "none")
            self.assertEqual(self.told("many"), str(len(choices)))
            steps = sure(web, lists)[0]
            self.assertEqual(self.told("sure"), " ".join(f"{place}={hue}" for place, hue in steps) or "none")
            self.assertEqual(self.told("pieces"), str(len(plain.pieces(web))))
            self.assertEqual(self.told("powers"), " ".join(map(str, powers_of(web))))
            self.assertEqual(self.told("width"), str(width(web)))
            self.assertEqual(self.told("near"), "yes" if always_near(web) else "no")
            self.holds(show(web, lists))


class NoLines(Told):
    def test_no_line(self):
        for prepared in ((), ("web 3", "tie 0 1", "list 0 0,1", "list 1 1")):
            self.done(*prepared)
            for line in NO_LINES:
                self.refused(NoLine, line)

    def test_of_whatever_kind(self):
        for thing in OF_WHATEVER_KIND:
            self.refused(NoLine, thing)
        for line in ("web 3", "back"):
            self.done(line)

    def test_ahead_of_no_number(self):
        for line in ("take 9 100", "tie 9 09", "list 9 1,0", "list 9 100", "cut 9 9 9", "tie 0 0 ", "take 7 -1",
                     "list " + THIRTY + " 0,0", "back now"):
            self.refused(NoLine, line)

    def test_thirty_figures_are_a_number(self):
        for line in ("tie 0 " + THIRTY, "cut " + THIRTY + " 0", "list " + THIRTY + " -", "take " + THIRTY + " 0"):
            self.refused(NoNumber, line)
            self.refused(NoLine, line.replace(THIRTY, THIRTY_ONE))

    def test_edges_of_hues(self):
        self.done("list 0 99", "take 0 99", "list 0 0", "take 0 0", "list 0 0,1,2,3,4,5,6,7")
        self.refused(NoLine, "list 0 0,1,2,3,4,5,6,7,8")
        self.refused(NoLine, "list 0 100")
        self.refused(NoLine, "take 0 100")
        self.refused(NoNumber, "take 0 99")


class Apart(unittest.TestCase):
    def test_two_desks_have_nothing_in_common(self):
        one, other = Desk(), Desk()
        one.say("web 3")
        one.say("tie 0 1")
        one.say("list 2 4")
        self.assertEqual(other.say("web"), "1 : -")
        self.assertRaises(NoNumber, other.say, "back")
        other.say("list 0 8")
        self.assertEqual(one.say("web"), "3 0-1 : - - 4")
        one.say("back")
        self.assertEqual(other.say("web"), "1 : 8")
        other.say("back")
        self.assertRaises(NoNumber, other.say, "back")
        self.assertEqual(one.say("back"), "ok")
        self.assertEqual(Desk().say("web"), "1 : -")

    def test_many_lines_by_chance(self):
        for seed in range(20):
            self.lines_by_chance(random.Random(seed))

    def lines_by_chance(self, chance):
        """A desk against a row of webs and lists that is kept here."""
        desk = Desk()
        stands = [((1, ()), ((),))]
        for number in range(200):
            web, lists = stands[-1]
            a, b, hue = chance.randint(0, web[0]), chance.randint(0, web[0]), chance.randint(0, 4)
            word = chance.choice(("tie", "tie", "tie", "cut", "list", "list", "list", "take", "take", "back", "web"))
            due = None
            tie = (min(a, b), max(a, b))
            if word == "web":
                places = chance.randint(3, 6)
                line, due = f"web {places}", ((places, ()), ((),) * places)
            elif word == "back":
                line = "back"
            elif word == "tie":
                line = f"tie {a} {b}"
                if a != b and tie[1] < web[0] and tie not in web[1]:
                    due = (web[0], tuple(sorted({*web[1], tie}))), lists
            elif word == "cut":
                line = f"cut {a} {b}"
                if tie in web[1]:
                    due = (web[0], tuple(sorted(set(web[1]) - {tie}))), lists
            elif word == "list":
                hues = tuple(sorted(chance.sample(range(5), chance.randint(0, 4))))
                line = f"list {a} " + (",".join(map(str, hues)) or "-")
                if a < web[0]:
                    due = web, lists[:a] + (hues,) + lists[a + 1:]
            else:
                line = f"take {a} {hue}"
                if a < web[0] and hue in lists[a]:
                    due = web, taken(web, lists, a, hue)
            if due is not None:
                stands.append(due)
                self.assertEqual(desk.say(line), "ok")
            elif word == "back" and len(stands) > 1:
                stands.pop()
                self.assertEqual(desk.say(line), "ok")
            else:
                self.assertRaises(NoNumber, desk.say, line)
            self.assertEqual(desk.say("web"), show(*stands[-1]))


if __name__ == "__main__":
    unittest.main()
