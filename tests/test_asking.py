"""Asked again of the same, the same is told, whatever was asked in between; only plain values are told."""

import copy
import unittest

from helper import ALL_EYES, Dice, big_webs, drawn_machine, is_told, small_webs
from ringmeet.beats import beat, begun, is_met, sight_of
from ringmeet.booklooks import shows_none
from ringmeet.colours import all_unlike, colouring, is_colouring, seen
from ringmeet.desk import Desk
from ringmeet.errands import deeds, does, fields_of, fits, is_errand
from ringmeet.errors import Alike, MeetError, NoText
from ringmeet.fewest import fewest, least_chalk, shows_fewest, shows_least_chalk
from ringmeet.gathering import gatherer
from ringmeet.machines import deed_of, is_machine, sights
from ringmeet.naming import redoored, renamed
from ringmeet.nevers import never, shows_never
from ringmeet.pairing import pairer
from ringmeet.parting import parted, shows_parted
from ringmeet.quiet import is_quiet, marking
from ringmeet.reading import read_machine, read_standing, read_web
from ringmeet.runs import most_chalk, run, walked
from ringmeet.seeking import sought
from ringmeet.showing import show_machine, show_standing, show_web
from ringmeet.slow import slow
from ringmeet.slowbeats import slow_beat, slow_walked
from ringmeet.slowlooks import shows_dodge, shows_sure
from ringmeet.standings import all_signs, chalk_signs, is_standing, standings
from ringmeet.turns import is_turn, turned, turns
from ringmeet.verdicts import verdict
from ringmeet.walks import led, way_back, ways
from ringmeet.webs import is_web, lane, ring


def turned_rooms(web):
    return tuple(range(len(web)))[::-1]


def turned_doors(web):
    return tuple(tuple(range(len(doors)))[::-1] for doors in web)


def web_questions(web):
    """Each question of a web, ready to be asked again."""
    last = len(web) - 1
    return [
        lambda: is_web(web),
        lambda: is_web(list(web)),
        lambda: led(web, 0, (0,)),
        lambda: led(web, last, (0, 0, 7)),
        lambda: way_back(web, last, ways(web, last)[0]),
        lambda: ways(web, 0),
        lambda: ways(web, last),
        lambda: renamed(web, turned_rooms(web)),
        lambda: redoored(web, turned_doors(web)),
        lambda: ring(len(web)),
        lambda: lane(len(web)),
    ]


def look_questions(web):
    """Each question of what looks alike in a web, with signs and a standing of its own."""
    last = len(web) - 1
    signs = tuple(room % 3 for room in range(len(web)))
    standing = ((0,), (last,))
    return [
        lambda: seen(web, signs, last, (0, 0)),
        lambda: colouring(web, signs),
        lambda: is_colouring(web, signs, (0,) * len(web)),
        lambda: is_colouring(web, signs, [0] * len(web)),
        lambda: all_unlike(colouring(web, signs)),
        lambda: parted(web, signs, 0, last),
        lambda: shows_parted(web, signs, 0, last, (0, 1)),
        lambda: shows_parted(web, signs, 0, last, [0, 1]),
        lambda: turns(web),
        lambda: is_turn(web, turns(web)[-1]),
        lambda: is_turn(web, turned_rooms(web)),
        lambda: turned(turns(web)[-1], (0, last)),
        lambda: is_standing(web, standing),
        lambda: is_standing(web, ((last, 0), [])),
        lambda: chalk_signs(web, standing[1]),
        lambda: all_signs(web, standing),
        lambda: standings(web, (len(web) + 1) // 2),
    ]


def machine_questions(web):
    """Each question of a machine that hangs on how many rooms a web has."""
    eyes = ("chalk",) if len(web) % 2 else ("came", "doors")
    machine = (eyes, tuple(((mood, sight), (len(web), "mark", None)) for mood in (0, 2) for sight in sights(eyes)))
    return [
        lambda: is_machine(machine),
        lambda: is_machine((eyes, list(machine[1]))),
        lambda: sights(eyes),
        lambda: deed_of(machine, 2, sights(eyes)[-1]),
        lambda: deed_of(machine, 1, sights(eyes)[0]),
    ]


def walk_questions(web):
    """Each question of walkers in a web, with a machine and a standing of its own."""
    many = len(web)
    eyes = ALL_EYES[(5 * many + len(web[0])) % 16]
    machine = drawn_machine(Dice(many), eyes, 2)
    standing = (tuple(range(0, many, 2)), tuple(range(1, many, 3)))
    whole = (tuple((room % many, 0, room % 3) for room in (5, 2, many)), standing[1])
    zeros = (0,) * many
    return [
        lambda: begun(standing),
        lambda: sight_of(web, eyes, whole, 2),
        lambda: beat(web, machine, whole),
        lambda: is_met(whole),
        lambda: walked(web, machine, standing, 9),
        lambda: run(web, machine, standing, 9),
        lambda: most_chalk(web, machine, standing, 9),
        lambda: is_quiet(machine, many),
        lambda: marking(machine),
        lambda: never(web, standing, False),
        lambda: never(web, (standing[0], ()), True),
        lambda: shows_never(web, standing, True, ("colours", zeros)),
        lambda: shows_never(web, (standing[0], ()), True, ("alike", 0, 1, zeros)),
        lambda: shows_never(web, standing, False, ["colours", zeros]),
    ]


def gathered_or_number(fields):
    try:
        return gatherer(fields)
    except Alike as refusal:
        return refusal.number


def meeting_questions(web):
    """Each question of machines that bring walkers of a web together, and of errands there."""
    many = len(web)
    rooms = tuple(range(0, many, 3))
    fields = ((web, (rooms, (0,))), (web, ((many - 1,), ())))
    errand = (fields, ("doors",), ("leave", "mark"), (None, 0), 1 + many % 3, many % 2, 3)
    machine = drawn_machine(Dice(many), ("doors",), 2)
    book = ("ask", 0, (None, None, len(web[0]), None), (("fails", 0),) * len(deeds(errand, 1)))
    return [
        lambda: gathered_or_number(fields),
        lambda: gathered_or_number(fields[:1]),
        lambda: pairer(web),
        lambda: verdict(web, rooms, False),
        lambda: verdict(web, rooms, True),
        lambda: is_errand(errand),
        lambda: is_errand(list(errand)),
        lambda: fields_of(web, (many + 1) // 2, False),
        lambda: fields_of(web, (many + 1) // 2, True),
        lambda: fits(errand, machine),
        lambda: does(errand, machine),
        lambda: deeds(errand, 1),
        lambda: shows_none(errand, book),
        lambda: shows_none(errand, ("fails", 0)),
        lambda: shows_none(errand, ["fails", 0]),
    ]


def book_questions(web):
    """Each question of machines that are sought for an errand in a web."""
    many = len(web)
    fields = ((web, ((0, many - 1) if many > 1 else (0,), (0,))), (web, ((many // 2,), ())))
    errand = (fields, ("chalk",), ("leave", "mark"), (None, 0), 1 + many % 2, 1 + many % 3, 3)
    machine = (("chalk",), (((0, (None, 0, None, None)), (0, "leave", 0)),))
    return [
        lambda: sought(errand, 30),
        lambda: sought(errand, 2),
        lambda: fewest(errand, 30),
        lambda: least_chalk(errand, 30),
        lambda: shows_fewest(errand, fewest(errand, 30)),
        lambda: shows_fewest(errand, ("does", 1, machine, ())),
        lambda: shows_least_chalk(errand, least_chalk(errand, 30)),
        lambda: shows_least_chalk(errand, ("does", 1, machine, (("fails", 0),))),
    ]


def slow_questions(web):
    """Each question of slow walkers in a web."""
    many = len(web)
    machine = drawn_machine(Dice(many), ("doors",), 1)
    standing = ((0, many - 1) if many > 1 else (0,), (many // 2,))
    whole = (((0, 0, 0), (many // 2, 0, 0), (many - 1, 0, 0)), standing[1])
    choices = (tuple(range(len(standing[0]))), (0,))
    return [
        lambda: slow_beat(web, machine, whole, (0, 2)),
        lambda: slow_walked(web, machine, standing, choices * 3),
        lambda: slow(web, machine, standing, 40),
        lambda: slow(web, machine, standing, 0),
        lambda: shows_sure(web, machine, standing, slow(web, machine, standing, 40)[1]),
        lambda: shows_sure(web, machine, standing, ((whole, 0, 0),)),
        lambda: shows_dodge(web, machine, standing, (), choices),
        lambda: shows_dodge(web, machine, standing, *(slow(web, machine, standing, 40) * 2)[1:3]),
    ]


def row_at_fault(read, text):
    """What is read, or the row told where it is refused."""
    try:
        return read(text)
    except NoText as refusal:
        return refusal.row


def said(rows):
    """What a new desk answers to some rows, or the words by which it refuses."""
    desk = Desk()
    told = []
    for row in rows:
        try:
            told.append(desk.say(row))
        except MeetError as refusal:
            told.append(str(refusal))
    return tuple(told)


def text_questions(web):
    """Each question of texts, and a talk with a desk."""
    many = len(web)
    standing = ((0, many - 1) if many > 1 else (0,), (many // 2,))
    machine = drawn_machine(Dice(many), ("chalk",), 2)
    rows = ["turns", "web " + show_web(web).replace("\n", "/"), "colours", f"part 0 {many - 1}", "meet",
            f"stand {many - 1}", f"chalk {many // 2}", "never", "never quiet", "run 9", "meet", "meet quiet", "save",
            "machine " + show_machine(machine).replace("\n", "/"), "run 9", "slow 9", "ring 9", "turns"]
    return [
        lambda: show_web(web),
        lambda: show_machine(machine),
        lambda: show_standing(standing),
        lambda: row_at_fault(read_web, show_web(web)),
        lambda: row_at_fault(read_web, show_web(web) + "\nroom"),
        lambda: row_at_fault(read_machine, show_machine(machine)),
        lambda: row_at_fault(read_machine, show_machine(machine) + " "),
        lambda: row_at_fault(lambda text: read_standing(web, text), show_standing(standing)),
        lambda: row_at_fault(lambda text: read_standing(web, text), f"stand {many}\nchalk"),
        lambda: said(rows),
    ]


def all_questions(web):
    questions = web_questions(web) + look_questions(web) + machine_questions(web) + walk_questions(web)
    return questions + meeting_questions(web) + book_questions(web) + slow_questions(web) + text_questions(web)


def webs_to_ask():
    return small_webs(3, 4) + big_webs() + [ring(many) for many in (1, 2, 6)] + [lane(many) for many in (1, 2, 6)]


class AskedAgain(unittest.TestCase):
    questions = staticmethod(all_questions)

    def test_two_webs_asked_by_turns(self):
        webs = webs_to_ask()
        alone = [[ask() for ask in self.questions(web)] for web in webs]
        for k, web in enumerate(webs):
            other = (k + 1) % len(webs)
            for n, (ask, ask_other) in enumerate(zip(self.questions(web), self.questions(webs[other]))):
                self.assertEqual((ask(), ask_other(), ask()), (alone[k][n], alone[other][n], alone[k][n]))

    def test_told_are_plain_values(self):
        for web in webs_to_ask():
            for ask in self.questions(web):
                self.assertTrue(is_told(ask()))

    def test_what_is_handed_in_stays(self):
        for web in webs_to_ask():
            before = copy.deepcopy(web)
            for ask in self.questions(web):
                ask()
            self.assertEqual(web, before)

    def test_lists_that_are_handed_to_the_lookers_stay(self):
        web, signs = ring(3), (0, 0, 0)
        errand = (((web, ((0, 1), ())),), (), ("mark",), (0,), 1, 0, 0)
        lookers = [
            is_web, is_machine, lambda thing: is_colouring(web, signs, thing), lambda thing: is_turn(web, thing),
            lambda thing: is_standing(web, thing), lambda thing: shows_parted(web, signs, 0, 1, thing),
            lambda thing: shows_never(web, ((0, 1), ()), True, thing),
            lambda thing: shows_never(web, ((0, 1), ()), True, ("alike", 0, 1, thing)),
            lambda thing: shows_never(web, ((0, 1), ()), True, ("colours", thing)), is_errand,
            lambda thing: shows_none(errand, thing), lambda thing: shows_none(errand, ("ask", 0, (None,) * 4, thing)),
            lambda thing: shows_fewest(errand, thing), lambda thing: shows_fewest(errand, ("does", 1, thing, ())),
            lambda thing: shows_fewest(errand, ("does", 1, ((), ()), thing)),
            lambda thing: shows_least_chalk(errand, thing),
            lambda thing: shows_least_chalk(errand, ("does", 0, ((), thing), ())),
            lambda thing: shows_sure(web, ((), ()), ((0, 1), ()), thing),
            lambda thing: shows_sure(web, ((), ()), ((0, 1), ()), ((thing, 0, 0),)),
            lambda thing: shows_dodge(web, ((), ()), ((0, 1), ()), thing, ((0, 1),)),
            lambda thing: shows_dodge(web, ((), ()), ((0, 1), ()), (), thing),
            lambda thing: row_at_fault(read_web, thing) != 0, lambda thing: row_at_fault(read_machine, thing) != 0,
            lambda thing: row_at_fault(lambda some: read_standing(web, some), thing) != 0,
            lambda thing: said([thing]) == ("done",),
        ]
        for things in ([2, 1, 0], [[[0, 1], [0, 0]]], ([2, 0], [1]), (([2, 1],), [0]), {2: [1], 0: [2]}):
            before = copy.deepcopy(things)
            for looker in lookers:
                self.assertIs(looker(things), False)
                self.assertEqual(things, before)


if __name__ == "__main__":
    unittest.main()
