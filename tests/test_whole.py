"""What the document promises over the whole program, from texts and the desk to verdicts, runs and lookers."""

import importlib
import inspect
import itertools
import unittest

from helper import (ALL_EYES, HANDS, Dice, Likes, Touchy, big_webs, cover_webs, drawn_errand, drawn_machine,
                    drawn_standing, drawn_web, fitting_machines, how_many, is_told, mixed_lifts, room_orders, sets_of,
                    small_errands, small_webs, standing_otherwise, strange_things)
from ringmeet.beats import is_met
from ringmeet.booklooks import shows_none
from ringmeet.colours import all_unlike, colouring, seen
from ringmeet.desk import Desk
from ringmeet.errands import does, fits
from ringmeet.errors import Alike, Lacks, MeetError, NoRow, NoText
from ringmeet.fewest import fewest, least_chalk, shows_fewest, shows_least_chalk
from ringmeet.gathering import gatherer
from ringmeet.naming import renamed
from ringmeet.nevers import never, shows_never
from ringmeet.pairing import pairer
from ringmeet.parting import parted, shows_parted
from ringmeet.quiet import is_quiet, marking
from ringmeet.reading import read_machine, read_standing, read_web
from ringmeet.runs import run, walked
from ringmeet.showing import show_machine, show_standing, show_web
from ringmeet.slow import slow
from ringmeet.slowbeats import slow_walked
from ringmeet.slowlooks import shows_dodge, shows_sure
from ringmeet.standings import chalk_signs, standings
from ringmeet.turns import turns
from ringmeet.verdicts import verdict
from ringmeet.webs import lane, ring


def row_of(text):
    return text.replace("\n", "/")


def lay(web, standing=None, machine=None):
    """A desk on which these are laid by their texts."""
    desk = Desk()
    desk.say("web " + row_of(show_web(web)))
    if standing:
        for row in show_standing(standing).split("\n"):
            desk.say(row)
    if machine:
        desk.say("machine " + row_of(show_machine(machine)))
    return desk


def webs_to_ask():
    dice = Dice(171)
    return small_webs(3, 4) + big_webs() + cover_webs() + [drawn_web(dice, 1 + k % 8) for k in range(16)]


class NeverHolds(unittest.TestCase):
    """(a)"""

    def kept_apart(self, web, standing, machine):
        desk = lay(web, standing, machine)
        self.assertNotEqual(desk.say("run 40").split(" ")[0], "met", (web, standing, machine))
        if len(standing[0]) <= 3:
            self.assertNotEqual(desk.say("slow 20"), "sure")

    def test_what_the_desk_tells_never(self):
        dice = Dice(172)
        found = {"colours": 0, "alike": 0, "no": 0}
        for web in webs_to_ask():
            for _ in range(6):
                standing = drawn_standing(dice, web)
                standing = (standing[0], standing[1] if dice.roll(2) else ())
                for quiet in (False, True):
                    word = lay(web, standing).say("never quiet" if quiet else "never").split(" ")[0]
                    found[word] += 1
                    if word != "no":
                        hands = ("leave",) if quiet else HANDS
                        machine = drawn_machine(dice, dice.pick(ALL_EYES), 1 + dice.roll(2), hands)
                        if not quiet or is_quiet(machine, len(standing[0])) or word == "colours":
                            self.kept_apart(web, standing, machine)
        self.assertGreater(min(found.values()), 20)

    def test_whatever_paper_is_taken(self):
        dice = Dice(173)
        taken = {"colours": 0, "alike": 0}
        for web in small_webs(3, 4) + [ring(3), ring(4), ring(6), lane(4)]:
            for rooms in sets_of(len(web))[1:]:
                standing = (rooms, dice.some(range(len(web))) if dice.roll(4) == 0 else ())
                for colours in itertools.product((0, 4), repeat=len(web)):
                    if shows_never(web, standing, False, ("colours", colours)):
                        taken["colours"] += 1
                        self.kept_apart(web, standing, drawn_machine(dice, dice.pick(ALL_EYES), 2))
                    for i, j in itertools.combinations(range(len(rooms)), 2):
                        if shows_never(web, standing, True, ("alike", i, j, colours)):
                            taken["alike"] += 1
                            eyes = dice.pick([eyes for eyes in ALL_EYES if "others" not in eyes or len(rooms) <= 2])
                            self.kept_apart(web, standing, drawn_machine(dice, eyes, 2, ("leave",)))
        self.assertGreater(min(taken.values()), 15)

    def test_machines_that_are_told_elsewhere(self):
        """Machines that bring others together don't bring these."""
        for web in cover_webs():
            some = sets_of(len(web))[1:12]
            verdicts = [verdict(web, rooms, chalking) for rooms in some for chalking in (False, True)]
            machines = [told[1] for told in verdicts if told[0] == "meet"] + [pairer(web)[0]]
            for standing in [(rooms, ()) for rooms in standings(web, max(1, len(web) // 2))]:
                if never(web, standing, False):
                    for machine in machines[::3]:
                        self.kept_apart(web, standing, machine)


class OneOfBoth(unittest.TestCase):
    """(b)"""

    def test_walkers_that_may_chalk(self):
        words = set()
        for web in webs_to_ask()[::2]:
            for rooms in sets_of(len(web))[1::3]:
                desk = lay(web, (rooms, ()))
                told = desk.say("meet")
                words.add(told.split(" ")[0])
                self.assertEqual(told == "never", desk.say("never") != "no")
                if told == "never":
                    self.assertIs(shows_never(web, (rooms, ()), False, verdict(web, rooms, True)[1]), True)
                else:
                    word, machine, beats = verdict(web, rooms, True)
                    self.assertEqual((word, told), ("meet", f"by {beats}"))
                    desk.say("machine " + row_of(show_machine(machine)))
                    self.assertRegex(desk.say(f"run {beats}"), "^met ")
        self.assertEqual(words, {"never", "by"})

    def test_one_machine_for_all_fields(self):
        for web in [ring(3), ring(4), ring(6), lane(4), big_webs()[3], big_webs()[4]] + mixed_lifts()[:2]:
            fields = [(web, rooms) for many in range(1, len(web) + 1) for rooms in standings(web, many)]
            fields = [(web, rooms) for web, rooms in fields if never(web, (rooms, ()), False) is None]
            for some in (fields[:6], fields[-3:], fields[::7][:5]):
                machine, beats = gatherer(tuple((web, (rooms, rooms)) for web, rooms in some))
                for web, rooms in some:
                    desk = lay(web, (rooms, ()), marking(machine))
                    self.assertRegex(desk.say(f"run {beats + 1}"), "^met ")

    def test_two_walkers_that_do_not_chalk(self):
        for web in webs_to_ask():
            machine, beats = pairer(web)
            for rooms in itertools.combinations(range(len(web)), 2):
                desk = lay(web, (rooms, ()), machine)
                unlike = desk.say(f"part {rooms[0]} {rooms[1]}") != "alike"
                self.assertEqual(desk.say("never quiet") == "no", unlike)
                self.assertEqual(desk.say("meet quiet") == "never", not unlike)
                if unlike:
                    self.assertRegex(desk.say(f"run {beats}"), "^met ")


class JustWhatLooksAlike(unittest.TestCase):
    """(c)"""

    def test_no_shorter_walk_parts(self):
        dice = Dice(174)
        found = [0, 0]
        for web in small_webs(3, 6) + [lane(4), lane(5), ring(4)] + [drawn_web(dice, 3 + k % 3) for k in range(6)]:
            chalk = dice.some(range(len(web))) if dice.roll(2) else ()
            signs = chalk_signs(web, chalk)
            desk = lay(web, ((0,), chalk))
            colours = desk.say("colours").split(" ")
            for one, other in itertools.product(range(len(web)), repeat=2):
                told = desk.say(f"part {one} {other}")
                self.assertEqual(told == "alike", colours[one] == colours[other])
                walk = parted(web, signs, one, other)
                most = len(web) if walk is None else len(walk) - 1
                found[walk is None] += 1
                for length in range(min(most, 4) + 1 if most >= 0 else 0):
                    for steps in itertools.product(range(4), repeat=length):
                        self.assertEqual(seen(web, signs, one, steps), seen(web, signs, other, steps))
                if walk is not None:
                    self.assertEqual(told, " ".join(map(str, walk)) or "-")
                    self.assertNotEqual(seen(web, signs, one, walk), seen(web, signs, other, walk))
                    self.assertIs(shows_parted(web, signs, one, other, walk), True)
        self.assertGreater(min(found), 40)


class Fewest(unittest.TestCase):
    """(d)"""

    def test_enough_and_no_fewer(self):
        dice = Dice(175)
        errands = small_errands() + [drawn_errand(dice) for _ in range(60)]
        found = 0
        for tells, looks, at, first in ((fewest, shows_fewest, 4, 1), (least_chalk, shows_least_chalk, 5, 0)):
            for errand in errands:
                told = tells(errand, 60)
                self.assertTrue(is_told(told))
                self.assertIs(looks(errand, told), told[0] == "does")
                if told[0] == "does":
                    enough = errand[:at] + (told[1],) + errand[at + 1:]
                    machine = read_machine(show_machine(told[2]))
                    self.assertIs(fits(enough, machine), True)
                    self.assertEqual(does(enough, machine)[0], "does")
                    for web, standing in errand[0]:
                        self.assertRegex(lay(web, standing, machine).say(f"run {errand[6]}"), "^met ")
                    for many in range(first, told[1]):
                        fewer = errand[:at] + (many,) + errand[at + 1:]
                        self.assertIs(shows_none(fewer, told[3][many - first]), True)
                        if how_many(fewer) <= 1000:
                            found += 1
                            self.assertFalse(any(does(fewer, some)[0] == "does" for some in fitting_machines(fewer)))
        self.assertGreater(found, 10)


class HoweverSlow(unittest.TestCase):
    """(e)"""

    def test_sure_and_dodged(self):
        dice = Dice(176)
        found = {"sure": 0, "dodge": 0, "open": 0}
        for k in range(250):
            web = dice.pick([lane(3), ring(3), ring(4), lane(4), drawn_web(dice, 2 + k % 4)])
            machine = drawn_machine(dice, dice.pick(ALL_EYES), 1 + dice.roll(2), dice.pick([("leave",), HANDS]))
            rooms = tuple(sorted(dice.shuffled(range(len(web)))[:2 + dice.roll(2)]))
            standing = (rooms, dice.some(range(len(web))))
            told = slow(web, machine, standing, 60)
            self.assertEqual(lay(web, standing, machine).say("slow 60"), told[0])
            found[told[0]] += 1
            if told[0] == "sure":
                self.assertIs(shows_sure(web, machine, standing, told[1]), True)
                self.assertEqual(run(web, machine, standing, 400)[0], "met")
                self.assertIsNone(never(web, standing, is_quiet(machine, len(rooms))))
                # Each walker in turn, the others resting a while.
                choices = [(k % len(rooms),) for k in range(70 * len(rooms))]
                self.assertTrue(any(map(is_met, slow_walked(web, machine, standing, choices))))
            elif told[0] == "dodge":
                self.assertIs(shows_dodge(web, machine, standing, told[1], told[2]), True)
                wholes = slow_walked(web, machine, standing, told[1] + told[2] * 3)
                self.assertFalse(any(map(is_met, wholes)))
        self.assertGreater(min(found.values()), 5)

    def test_gatherers_and_pairers_go_each_walkers_way(self):
        dice = Dice(177)
        for web in webs_to_ask()[::3]:
            machine, beats = pairer(web)
            standing = (dice.some(range(len(web)), 1), ())
            many = len(standing[0])
            choices = [dice.some(range(many), 1) for _ in range(30)]
            ways = walked(web, machine, standing, 30)
            for t, whole in enumerate(slow_walked(web, machine, standing, choices)):
                for k in range(many):
                    self.assertEqual(whole[0][k], ways[sum(k in choice for choice in choices[:t])][0][k])


class RoomsWithoutNames(unittest.TestCase):
    """(f)"""

    def test_the_desk_answers_alike(self):
        dice = Dice(178)
        for web in small_webs(3, 4)[::3] + big_webs() + cover_webs()[:6] + [drawn_web(dice, 5) for _ in range(4)]:
            standing = drawn_standing(dice, web)
            standing = (standing[0][:3], standing[1])
            machine = drawn_machine(dice, dice.pick(ALL_EYES), 1)
            desk = lay(web, standing, machine)
            for order in list(room_orders(web))[::3]:
                other = lay(renamed(web, order), standing_otherwise(order, standing), machine)
                for row in ("turns", "run 40", "run 3", "slow 40", "meet", "meet quiet"):
                    self.assertEqual(other.say(row), desk.say(row), (web, order, row))
                for row in ("never", "never quiet"):
                    self.assertEqual(other.say(row).split(" ")[0], desk.say(row).split(" ")[0])
                colours, others = desk.say("colours").split(" "), other.say("colours").split(" ")
                pairs = {(colours[room], others[order[room]]) for room in range(len(web))}
                self.assertEqual(len(pairs), len(set(colours)))
                self.assertEqual(len(pairs), len(set(others)))
                for one, two in itertools.product(range(len(web)), repeat=2):
                    self.assertEqual(other.say(f"part {order[one]} {order[two]}"), desk.say(f"part {one} {two}"))

    def test_what_is_told_of_machines_and_errands(self):
        dice = Dice(179)
        for web in small_webs(3, 4)[::4] + [ring(4), ring(5), lane(4)] + mixed_lifts()[:2]:
            rooms = dice.some(range(len(web)), 1)
            for order in list(room_orders(web))[::4]:
                other = renamed(web, order)
                moved = tuple(sorted(order[room] for room in rooms))
                self.assertEqual(pairer(other), pairer(web))
                for chalking in (False, True):
                    one, two = verdict(web, rooms, chalking), verdict(other, moved, chalking)
                    self.assertEqual(one[0], two[0])
                    if one[0] == "meet":
                        self.assertEqual(one, two)
                self.assertEqual([len(standings(other, many)) for many in range(1, len(web) + 1)],
                                 [len(standings(web, many)) for many in range(1, len(web) + 1)])
        for errand in small_errands():
            fields = []
            for web, standing in errand[0]:
                order = tuple(dice.shuffled(range(len(web))))
                fields.append((renamed(web, order), standing_otherwise(order, standing)))
            for tells in (fewest, least_chalk):
                one, two = tells(errand, 600), tells((tuple(fields),) + errand[1:], 600)
                self.assertEqual(one[0], two[0])
                self.assertEqual(*[told[1] if told[0] == "does" else len(told[1]) for told in (one, two)])


class WrittenAndRead(unittest.TestCase):
    """(g)"""

    def test_all_that_is_told_is_written_and_read(self):
        dice = Dice(180)
        for web in webs_to_ask():
            self.assertEqual(read_web(show_web(web)), web)
            rooms = dice.some(range(len(web)), 1)
            self.assertEqual(read_standing(web, show_standing((rooms, rooms))), (rooms, rooms))
            machines = [pairer(web)[0]] + [told[1] for told in (verdict(web, rooms, True), verdict(web, rooms, False))
                                           if told[0] == "meet"]
            for machine in machines:
                self.assertEqual(read_machine(show_machine(machine)), machine)

    def test_the_desk_answers_as_all_these_do(self):
        dice = Dice(181)
        for web in webs_to_ask()[::2]:
            standing = drawn_standing(dice, web)
            standing = (standing[0][:3], standing[1])
            machine = drawn_machine(dice, dice.pick(ALL_EYES), 2)
            desk = lay(web, standing, machine)
            told = run(web, machine, standing, 50)
            self.assertEqual(desk.say("run 50"), "open" if told[0] == "open" else " ".join(map(str, told)))
            self.assertEqual(desk.say("slow 30"), slow(web, machine, standing, 30)[0])
            self.assertEqual(desk.say("turns"), str(len(turns(web))))
            self.assertEqual(desk.say("colours"), " ".join(map(str, colouring(web, chalk_signs(web, standing[1])))))
            self.assertEqual(desk.say("save"), row_of(show_web(web) + "\n" + show_standing(standing)))
            self.assertEqual(desk.say("never") == "no", never(web, standing, False) is None)
            self.assertEqual(desk.say("meet").split(" ")[0].replace("by", "meet"), verdict(web, standing[0], True)[0])
            self.assertEqual(all_unlike(desk.say("colours").split(" ")),
                             all_unlike(colouring(web, chalk_signs(web, standing[1]))))


INTERFACE = {
    "webs": {"is_web": "thing", "ring": "many", "lane": "many"},
    "walks": {"led": "web room walk", "way_back": "web room walk", "ways": "web room"},
    "naming": {"renamed": "web order", "redoored": "web orders"},
    "colours": {"seen": "web signs room walk", "is_colouring": "web signs thing", "colouring": "web signs",
                "all_unlike": "colours"},
    "parting": {"parted": "web signs one other", "shows_parted": "web signs one other thing"},
    "turns": {"is_turn": "web thing", "turns": "web", "turned": "turn rooms"},
    "standings": {"is_standing": "web thing", "standings": "web many", "chalk_signs": "web chalk",
                  "all_signs": "web standing"},
    "machines": {"is_machine": "thing", "sights": "eyes", "deed_of": "machine mood sight"},
    "beats": {"begun": "standing", "sight_of": "web eyes whole k", "beat": "web machine whole", "is_met": "whole"},
    "runs": {"walked": "web machine standing beats", "run": "web machine standing most",
             "most_chalk": "web machine standing beats"},
    "quiet": {"is_quiet": "machine many", "marking": "machine"},
    "nevers": {"never": "web standing quiet", "shows_never": "web standing quiet thing"},
    "gathering": {"gatherer": "fields"},
    "pairing": {"pairer": "web"},
    "verdicts": {"verdict": "web rooms chalking"},
    "errands": {"is_errand": "thing", "fields_of": "web many quiet", "fits": "errand machine", "does": "errand machine",
                "deeds": "errand named"},
    "booklooks": {"shows_none": "errand thing"},
    "seeking": {"sought": "errand most"},
    "fewest": {"fewest": "errand most", "least_chalk": "errand most", "shows_fewest": "errand thing",
               "shows_least_chalk": "errand thing"},
    "slowbeats": {"slow_beat": "web machine whole choice", "slow_walked": "web machine standing choices"},
    "slow": {"slow": "web machine standing most"},
    # The last one is called round there, as a name of Python's own is; things are handed in by their places.
    "slowlooks": {"shows_sure": "web machine standing thing", "shows_dodge": "web machine standing way again"},
    "showing": {"show_web": "web", "show_machine": "machine", "show_standing": "standing"},
    "reading": {"read_web": "text", "read_machine": "text", "read_standing": "web text"},
}


class Interface(unittest.TestCase):
    def test_functions(self):
        for module, functions in INTERFACE.items():
            for name, arguments in functions.items():
                found = getattr(importlib.import_module(f"ringmeet.{module}"), name)
                self.assertEqual(found.__module__, f"ringmeet.{module}")
                self.assertEqual(list(inspect.signature(found).parameters), arguments.split(), name)

    def test_desk_and_errors(self):
        self.assertEqual(list(inspect.signature(Desk).parameters), [])
        self.assertEqual(list(inspect.signature(Desk().say).parameters), ["row"])
        self.assertEqual([error.__bases__ for error in (Alike, NoText, NoRow, Lacks)], [(MeetError,)] * 4)
        self.assertEqual((Alike(3).number, NoText(4).row, str(NoRow("a")), str(Lacks("b"))), (3, 4, "a", "b"))

    def test_lookers_tell_true_or_false_of_anything(self):
        web, standing, machine = ring(3), ((0, 1), (1,)), ((), ())
        errand = (((web, standing),), (), ("leave",), (0,), 1, 1, 1)
        things = strange_things() + [Likes(), Touchy(), web, standing, machine, errand, ("fails", 0), "ring 3"]
        given = {"web": web, "standing": standing, "machine": machine, "errand": errand, "signs": (0, 0, 0), "one": 0,
                 "other": 1, "quiet": True}
        for module, functions in INTERFACE.items():
            for name, arguments in functions.items():
                if name.split("_")[0] in ("is", "shows") and arguments.split()[-1] in ("thing", "again"):
                    looker = getattr(importlib.import_module(f"ringmeet.{module}"), name)
                    for thing in things:
                        told = looker(*[given.get(argument, thing) for argument in arguments.split()])
                        self.assertIn(told, (True, False))
                        self.assertIs(type(told), bool)


if __name__ == "__main__":
    unittest.main()
