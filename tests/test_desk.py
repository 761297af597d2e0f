import re
import unittest

from helper import (ALL_EYES, HANDS, Dice, big_webs, cover_webs, drawn_machine, drawn_standing, drawn_web, sets_of,
                    small_webs, strange_things)
from ringmeet.colours import colouring
from ringmeet.desk import Desk
from ringmeet.errors import Lacks, MeetError, NoRow, NoText
from ringmeet.nevers import never
from ringmeet.parting import parted
from ringmeet.reading import read_machine, read_web
from ringmeet.runs import run
from ringmeet.showing import show_machine, show_standing, show_web
from ringmeet.slow import slow
from ringmeet.standings import chalk_signs
from ringmeet.turns import turns
from ringmeet.verdicts import verdict
from ringmeet.webs import lane, ring

NUMBER = "(?:0|[1-9][0-9]{0,3})"
FORMS = [re.compile(form, re.DOTALL) for form in (
    "(ring|lane) ([1-8])", r"(web|machine) ([^\n]*)", f"(stand) ({NUMBER}(?: {NUMBER})*)", f"(chalk)((?: {NUMBER})*)",
    "(turns|colours|save)()", f"(part) ({NUMBER} {NUMBER})", "(never|meet)( quiet)?",
    "(run|slow) (0|[1-9][0-9]?|[123][0-9][0-9]|400)")]
TO_CHALK = "machine eyes chalk/0 - 0 - - > 0 leave 0"
SIGNS = list(" 0123456789.->/\n\t\r") + ["a", "q", "\u00b2", "\u0663", "\u00a0", "~", ""]


class DeskByWords:
    """A desk as the document tells it, clause by clause."""

    def __init__(self):
        self.web = self.stand = self.machine = None
        self.chalk = ()

    def say(self, row):
        found = [form.fullmatch(row) for form in FORMS] if isinstance(row, str) else []
        found = [match for match in found if match]
        if not found:
            raise NoRow("")
        word, rest = found[0].group(1), found[0].group(2)
        if word not in ("ring", "lane", "web", "machine"):
            self.lacking(word)
        return getattr(self, "say_" + word)(rest)

    def lacking(self, word):
        if self.web is None:
            raise Lacks("")
        if word in ("chalk", "never", "run", "slow", "meet") and self.stand is None:
            raise Lacks("")
        if word in ("run", "slow") and self.machine is None:
            raise Lacks("")

    def lay(self, web):
        self.web, self.stand, self.chalk, self.machine = web, None, (), None
        return "done"

    def say_ring(self, rest):
        return self.lay(ring(int(rest)))

    def say_lane(self, rest):
        return self.lay(lane(int(rest)))

    def say_web(self, rest):
        return self.lay(read_web("\n".join(rest.split("/"))))

    def say_machine(self, rest):
        self.machine = read_machine("\n".join(rest.split("/")))
        return "done"

    def rooms(self, rest):
        rooms = tuple(int(word) for word in rest.split())
        if list(rooms) != sorted(set(rooms)) or any(room >= len(self.web) for room in rooms):
            raise NoRow("")
        return rooms

    def say_stand(self, rest):
        self.stand, self.chalk = self.rooms(rest), ()
        return "done"

    def say_chalk(self, rest):
        self.chalk = self.rooms(rest)
        return "done"

    def say_turns(self, rest):
        return str(len(turns(self.web)))

    def say_colours(self, rest):
        return " ".join(map(str, colouring(self.web, chalk_signs(self.web, self.chalk))))

    def say_part(self, rest):
        one, other = map(int, rest.split())
        if max(one, other) >= len(self.web):
            raise NoRow("")
        walk = parted(self.web, chalk_signs(self.web, self.chalk), one, other)
        return "alike" if walk is None else " ".join(map(str, walk)) or "-"

    def say_never(self, rest):
        paper = never(self.web, (self.stand, self.chalk), rest is not None)
        if paper is None:
            return "no"
        return " ".join(map(str, (("colours",) + paper[1]) if paper[0] == "colours" else paper[:3]))

    def say_run(self, rest):
        told = run(self.web, self.machine, (self.stand, self.chalk), int(rest))
        return " ".join(map(str, told)) if told[0] != "open" else "open"

    def say_slow(self, rest):
        return slow(self.web, self.machine, (self.stand, self.chalk), int(rest))[0]

    def say_meet(self, rest):
        told = verdict(self.web, self.stand, rest is None)
        return f"by {told[2]}" if told[0] == "meet" else told[0]

    def say_save(self, rest):
        text = show_web(self.web)
        if self.stand is not None:
            text += "\n" + show_standing((self.stand, self.chalk))
        return "/".join(text.split("\n"))


def answer(desk, row):
    """What a desk answers, or by what it refuses: (class, row where it is NoText)."""
    try:
        return desk.say(row)
    except (NoRow, NoText, Lacks) as refusal:
        return type(refusal), getattr(refusal, "row", None)


def laid(*rows):
    desk = Desk()
    for row in rows:
        assert desk.say(row) == "done"
    return desk


ASKED = ["turns", "colours", "part 0 0", "part 0 1", "never", "never quiet", "run 0", "run 30", "slow 0", "slow 20",
         "meet", "meet quiet", "save"]


def all_asked(desk):
    """All that a desk answers: two that answer alike have the same laid."""
    return [answer(desk, row) for row in ASKED]


class Refused(unittest.TestCase):
    def refused(self, desk, row, refusal, at=None):
        """Look at how a row is refused, and that nothing is changed by it."""
        before = all_asked(desk)
        with self.assertRaises(MeetError) as caught:
            desk.say(row)
        self.assertIs(type(caught.exception), refusal, row)
        if at is not None:
            self.assertEqual(caught.exception.row, at)
        self.assertEqual(all_asked(desk), before, row)

    def desks(self):
        """Desks with nothing, a web, a stand, a machine, and all of them laid."""
        return [Desk(), laid("ring 4"), laid("ring 4", "stand 0 1"), laid(TO_CHALK), laid("ring 4", TO_CHALK),
                laid("ring 4", "stand 0 2", "chalk 0", TO_CHALK)]


class NoSuchRow(Refused):
    def test_ahead_of_all(self):
        rows = ["", " ", "rings", "ring", "ring ", "ring 0", "ring 9", "ring 10", "ring 04", "ring 4 ", "ring  4",
                " ring 4", "ring 4 4", "ring -1", "ring a", "Ring 4", "ring 4\n", "\nring 4", "ring\n4", "lane",
                "lane 0", "lane 9", "lane 3 3", "lane 03", "lane\t3", "web", "web\nroom", "web room\n",
                "web room\nroom", "machine", "machine\neyes", "machine eyes\n", "machines eyes", "webs room", "stand",
                "stand ", "stand  0", "stand 0 ", "stand a", "stand 00", "stand 01", "stand 10000", "stand 0,1",
                "stand -1", "stand 0\n", "stand 0 1\n2", "chalk ", "chalk  0", "chalk 0 ", "chalk a", "chalk 00",
                "chalk 12345", "chalk\n", "chalk -", "turns ", "turns 0", "turn", "turns\n", "colours ", "colours 0",
                "colour", "part", "part 0", "part 0 ", "part 0  1", "part 0 1 2", "part 0 1 ", "part a b", "part 00 1",
                "part 0 10000", "part -1 0", "part 0\n1", "never ", "never  quiet", "never quiet ", "never Quiet",
                "never loud", "never quiet quiet", "neverquiet", "never 0", "run", "run ", "run -1", "run 401",
                "run 0400", "run 00", "run 4000", "run 10000", "run 3 ", "run  3", "run 3 3", "run a", "run 3\n",
                "run quiet", "slow", "slow 401", "slow -1", "slow 00", "slow 01", "slow 3 ", "slow 1 2", "slow 999",
                "meet ", "meet loud", "meet quiet ", "meet  quiet", "meet 0", "meet quietly", "save ", "save 0",
                "save\n", "saved", "quiet", "done", "room", "eyes", "stand 0/chalk", "room 1.0/room 0.0", "ring \u00b2",
                "ring \u0664", "run \u0663", "run 1_0", "ring 4\r", "ring\u00a04", "turns\u2028", "say ring 4",
                "__init__", "say"]
        for row in rows:
            for desk in self.desks():
                self.refused(desk, row, NoRow)

    def test_things_of_all_kinds(self):
        things = [b"ring 4", ["ring 4"], ("ring 4",), ["ring", "4"], ("ring", 4), {"ring": 4}, b"turns"]
        for thing in strange_things() + things:
            for desk in self.desks()[::5]:
                self.refused(desk, thing, NoRow)

    def test_numbers_at_their_bounds_and_one_beyond(self):
        for number in list(range(12)) + [398, 399, 400, 401, 402, 999, 4000, 9999, 10000]:
            for word in ("ring", "lane"):
                told = answer(Desk(), f"{word} {number}")
                self.assertEqual(told, "done" if 1 <= number <= 8 else (NoRow, None))
            for word in ("run", "slow"):
                row = f"{word} {number}"
                for desk in (Desk(), laid("lane 3"), laid("lane 3", "stand 0 2")):
                    self.refused(desk, row, Lacks if number <= 400 else NoRow)
                desk = laid("lane 3", "stand 0 2", "machine eyes")
                self.assertEqual(answer(desk, row) == (NoRow, None), number > 400)
            for row in (f"stand {number}", f"part 0 {number}", f"part {number} 0"):
                self.refused(Desk(), row, Lacks if number <= 9999 else NoRow)
            self.refused(laid("ring 1"), f"chalk {number}", Lacks if number <= 9999 else NoRow)

    def test_one_sign_otherwise_at_any_place(self):
        rows = ["ring 4", "lane 3", "web room 1.0/room 0.0", "machine eyes/0 - - - - > 0 leave -", "stand 0 2",
                "chalk 1", "chalk", "turns", "colours", "part 0 2", "never", "never quiet", "run 40", "slow 12", "meet",
                "meet quiet", "save"]
        lay = ["ring 4", "stand 1 2", "chalk 3", TO_CHALK]
        found = set()
        for row in rows:
            for k in range(len(row) + 1):
                for sign in SIGNS:
                    for other in (row[:k] + sign + row[k:], row[:k] + sign + row[k + 1:]):
                        one, two = Desk(), DeskByWords()
                        for first in lay if len(row) % 2 else lay[:k % 5]:
                            one.say(first)
                            two.say(first)
                        told = answer(one, other)
                        found.add(told if type(told) is tuple else "text")
                        self.assertEqual(told, answer(two, other), other)
                        self.assertEqual(answer(one, "save"), answer(two, "save"))
        self.assertLessEqual({"text", (NoRow, None), (Lacks, None), (NoText, 0), (NoText, 1), (NoText, 2)}, found)


class NoSuchText(Refused):
    def test_webs(self):
        for text, at in (("", 0), (" ", 0), ("room ", 0), ("room/", 1), ("/room", 0), ("room//room", 1), ("rooms", 0),
                         ("/", 0), ("room 1.0/room", 2), ("room 1.0/room 0.0/room", 3), ("room 1.0/rooms", 1),
                         ("ring 4", 0), ("room 0.0", 1), ("room 00.1 0.0", 0), ("room 0.1 0.0/stand 0/chalk", 1),
                         ("\u00b2", 0), (" room", 0)):
            for desk in self.desks():
                self.refused(desk, "web " + text, NoText, at)

    def test_machines(self):
        for text, at in (("", 0), ("eye", 0), ("eyes/", 1), ("eyes came came", 1), ("eyes/0 - - - - > 0 leave", 1),
                         ("/eyes", 0), ("eyes chalk/0 - - - - > 0 leave -", 2),
                         ("eyes chalk/0 - 1 - - > 0 leave -/0 - 0 - - > 0 leave -", 3), ("eyes ", 0), (" eyes", 0),
                         ("room", 0)):
            for desk in self.desks():
                self.refused(desk, "machine " + text, NoText, at)


class Lacking(Refused):
    def test_each_row(self):
        nothing, web, stand, machine, both, every = range(6)
        wanted = {"stand 0": (nothing, machine), "chalk": (nothing, web, machine, both), "turns": (nothing, machine),
                  "chalk 0": (nothing, web, machine, both), "colours": (nothing, machine),
                  "part 0 1": (nothing, machine), "never": (nothing, web, machine, both),
                  "never quiet": (nothing, web, machine, both), "meet": (nothing, web, machine, both),
                  "meet quiet": (nothing, web, machine, both), "run 5": (nothing, web, stand, machine, both),
                  "slow 5": (nothing, web, stand, machine, both), "save": (nothing, machine), "ring 3": (),
                  "lane 3": (), "web room": (), "machine eyes": ()}
        for row, lacking in wanted.items():
            for k, desk in enumerate(self.desks()):
                if k in lacking:
                    self.refused(desk, row, Lacks)
                else:
                    self.assertIs(type(desk.say(row)), str)

    def test_ahead_of_rooms_that_are_not_there(self):
        for row in ("stand 9", "stand 1 0", "stand 0 0", "part 9 9", "part 0 8"):
            self.refused(Desk(), row, Lacks)
            self.refused(laid(TO_CHALK), row, Lacks)
            self.refused(laid("ring 4"), row, NoRow)
        for row in ("chalk 9", "chalk 1 0", "chalk 2 2"):
            self.refused(Desk(), row, Lacks)
            self.refused(laid("ring 4"), row, Lacks)
            self.refused(laid("ring 4", "stand 0"), row, NoRow)


class NoSuchRooms(Refused):
    def test_beyond_and_not_rising(self):
        for many in range(1, 9):
            desk = laid(f"ring {many}", "stand 0")
            for room in range(10):
                rows = [f"stand {room}", f"chalk {room}", f"part 0 {room}", f"part {room} 0", f"part {room} {room}"]
                for row in rows:
                    if room < many:
                        self.assertIs(type(desk.say(row)), str)
                    else:
                        self.refused(desk, row, NoRow)
        desk = laid("ring 8", "stand 3", "chalk 4", TO_CHALK)
        for rooms in ("1 0", "0 0", "0 1 1", "2 1 3", "0 8", "8", "9999", "0 1 2 3 4 5 6 7 8", "7 6"):
            self.refused(desk, "stand " + rooms, NoRow)
            self.refused(desk, "chalk " + rooms, NoRow)

    def test_rooms_of_part_need_not_rise(self):
        desk = laid("lane 4")
        self.assertEqual([desk.say("part 2 1"), desk.say("part 1 2"), desk.say("part 0 1"), desk.say("part 1 1")],
                         ["0", "0", "-", "alike"])


class Deeds(unittest.TestCase):
    def test_the_three_webs_take_all_else_away(self):
        for row, web in (("ring 5", ring(5)), ("lane 5", lane(5)), ("web room 1.0/room 0.0 2.0/room 1.1", lane(3)),
                         ("web room", lane(1)), ("ring 1", ring(1)), ("lane 8", lane(8)), ("ring 8", ring(8))):
            desk = laid("ring 4", "stand 0 1", "chalk 2", TO_CHALK)
            self.assertEqual(desk.say(row), "done")
            self.assertEqual(desk.say("save"), show_web(web).replace("\n", "/"))
            self.assertEqual([answer(desk, asked)[0] for asked in ("never", "chalk", "run 3", "meet")], [Lacks] * 4)
            desk.say("stand 0")
            self.assertEqual(answer(desk, "run 3"), (Lacks, None))
            self.assertEqual(desk.say("save"), show_web(web).replace("\n", "/") + "/stand 0/chalk")

    def test_a_machine_leaves_the_standing(self):
        desk = laid("ring 4", "stand 0 2", "chalk 0")
        for machine, told in ((TO_CHALK, "met 2"), ("machine eyes", "round 0 1"),
                              ("machine eyes/0 - - - - > 0 leave 0", "round 1 5")):
            self.assertEqual(desk.say(machine), "done")
            self.assertEqual(desk.say("run 400"), told)
            self.assertTrue(desk.say("save").endswith("/stand 0 2/chalk 0"))

    def test_a_machine_without_a_web(self):
        desk = Desk()
        self.assertEqual(desk.say("machine eyes"), "done")
        self.assertEqual(answer(desk, "run 3"), (Lacks, None))

    def test_stand_takes_chalk_away(self):
        desk = laid("ring 4", TO_CHALK, "stand 0 2", "chalk 1 3")
        self.assertTrue(desk.say("save").endswith("/stand 0 2/chalk 1 3"))
        self.assertEqual(desk.say("stand 1"), "done")
        self.assertTrue(desk.say("save").endswith("/stand 1/chalk"))
        self.assertEqual(desk.say("colours"), "0 0 0 0")
        # The machine stays.
        self.assertEqual(desk.say("run 3"), "met 0")

    def test_chalk_leaves_the_rooms(self):
        desk = laid("ring 4", "stand 0 2", "chalk 1 3")
        for row, chalk in (("chalk 0", " 0"), ("chalk", ""), ("chalk 0 1 2 3", " 0 1 2 3")):
            self.assertEqual(desk.say(row), "done")
            self.assertTrue(desk.say("save").endswith("/stand 0 2/chalk" + chalk))

    def test_texts_with_slashes(self):
        for web in small_webs(3, 4) + big_webs():
            desk = laid("web " + show_web(web).replace("\n", "/"))
            self.assertEqual(desk.say("save"), show_web(web).replace("\n", "/"))


class Answers(unittest.TestCase):
    def test_written_out(self):
        desk = laid("ring 6")
        self.assertEqual(desk.say("turns"), "6")
        self.assertEqual(desk.say("colours"), "0 0 0 0 0 0")
        self.assertEqual(desk.say("part 0 3"), "alike")
        self.assertEqual(laid("lane 3").say("part 0 1"), "-")
        self.assertEqual(laid("lane 4").say("part 1 2"), "0")
        self.assertEqual(laid("lane 8").say("part 3 4"), "0 0 0")
        desk.say("stand 0 3")
        self.assertEqual(desk.say("never"), "colours 0 1 2 0 1 2")
        self.assertEqual(desk.say("never quiet"), "colours 0 1 2 0 1 2")
        self.assertEqual(desk.say("meet"), "never")
        desk.say("stand 0 1")
        self.assertEqual([desk.say("never"), desk.say("never quiet")], ["no", "alike 0 1"])
        self.assertEqual(desk.say("meet quiet"), "never")
        self.assertRegex(desk.say("meet"), "^by [0-9]+$")
        desk.say("chalk 0")
        self.assertEqual(desk.say("never quiet"), "no")
        self.assertEqual(desk.say("colours"), "0 1 2 3 4 5")
        self.assertEqual(desk.say("part 1 5"), "0")
        # Without chalk: what is chalked doesn't count for meet.
        self.assertEqual(desk.say("meet quiet"), "never")
        desk.say(TO_CHALK)
        self.assertEqual([desk.say("run 400"), desk.say("run 5"), desk.say("run 4")], ["met 5", "met 5", "open"])
        self.assertEqual([desk.say("slow 400"), desk.say("slow 5"), desk.say("slow 4")], ["sure", "sure", "open"])
        desk.say("chalk")
        self.assertEqual([desk.say("run 400"), desk.say("run 6")], ["round 1 7", "open"])
        self.assertEqual(desk.say("slow 400"), "dodge")

    def test_the_smallest_web(self):
        desk = laid("lane 1", "stand 0", "machine eyes")
        rows = ("turns", "colours", "part 0 0", "never", "never quiet", "run 0", "slow 0", "save")
        told = [desk.say(row) for row in rows]
        self.assertEqual(told, ["1", "0", "alike", "no", "no", "met 0", "sure", "room/stand 0/chalk"])

    def test_against_the_functions(self):
        dice = Dice(161)
        found = set()
        webs = small_webs(3, 4) + big_webs() + cover_webs() + [drawn_web(dice, 1 + k % 8) for k in range(40)]
        for web in webs:
            one, two = Desk(), DeskByWords()
            standing = drawn_standing(dice, web)
            standing = (standing[0][:3], standing[1])
            machine = drawn_machine(dice, dice.pick(ALL_EYES), 1 + dice.roll(2), dice.pick([("leave",), HANDS]))
            rows = ["web " + show_web(web).replace("\n", "/")] + ASKED
            rows += show_standing(standing).split("\n") + ASKED
            rows += ["machine " + show_machine(machine).replace("\n", "/")] + ASKED + ["run 400", "slow 60", "run 1"]
            rows += [f"part {a} {b}" for a in range(len(web)) for b in range(len(web))]
            for row in rows:
                told = answer(one, row)
                self.assertEqual(told, answer(two, row), (web, row))
                found.add((row.split(" ")[0], told.split(" ")[0] if type(told) is str and row[0] not in "ct" else None))
        for row, words in (("never", ("no", "colours", "alike")), ("run", ("met", "round", "open")),
                           ("meet", ("never", "by")), ("slow", ("sure", "dodge", "open")),
                           ("part", ("alike", "-", "0"))):
            for word in words:
                self.assertIn((row, word), found)

    def test_drawn_talks(self):
        dice = Dice(162)
        rows = ASKED + ["ring 3", "ring 6", "lane 4", "web room 0.1 0.0 1.0/room 0.2", "web room 1", "machine eyes",
                        TO_CHALK, "machine eyes others/0 - - - 0 > 0 mark 0/0 - - - 1 > 0 wipe 1", "machine x",
                        "stand 0", "stand 0 2", "stand 1 3", "stand 0 1 2", "stand 5", "stand 2 1", "chalk", "chalk 0",
                        "chalk 1 2", "chalk 9", "part 2 3", "part 5 0", "run 7", "slow 400", "run 401", "hello", "",
                        "ring 9"]
        for _ in range(60):
            one, two = Desk(), DeskByWords()
            for _ in range(40):
                row = dice.pick(rows)
                self.assertEqual(answer(one, row), answer(two, row))
            self.assertEqual(all_asked(one), all_asked(two))

    def test_asked_again_the_same(self):
        desk = laid("ring 5", "stand 0 2", "chalk 1", TO_CHALK)
        first = all_asked(desk)
        self.assertEqual(all_asked(desk), first)
        self.assertEqual(all_asked(laid("ring 5", "stand 0 2", "chalk 1", TO_CHALK)), first)


class Save(unittest.TestCase):
    def test_written_out(self):
        desk = laid("lane 3")
        self.assertEqual(desk.say("save"), "room 1.0/room 0.0 2.0/room 1.1")
        desk.say("stand 0 2")
        self.assertEqual(desk.say("save"), "room 1.0/room 0.0 2.0/room 1.1/stand 0 2/chalk")
        desk.say("chalk 0 1")
        self.assertEqual(desk.say("save"), "room 1.0/room 0.0 2.0/room 1.1/stand 0 2/chalk 0 1")
        desk.say("machine eyes")
        self.assertEqual(desk.say("save"), "room 1.0/room 0.0 2.0/room 1.1/stand 0 2/chalk 0 1")

    def test_laid_anew_in_another_desk(self):
        dice = Dice(163)
        for web in small_webs(3, 4) + big_webs() + [drawn_web(dice, 1 + k % 8) for k in range(30)]:
            for rooms, chalk in [drawn_standing(dice, web) for _ in range(3)] + [(None, None)]:
                desk = laid("web " + show_web(web).replace("\n", "/"))
                if rooms:
                    desk.say(" ".join(map(str, ("stand",) + rooms)))
                    desk.say(" ".join(map(str, ("chalk",) + chalk)))
                saved = desk.say("save")
                other = Desk()
                first, *rest = saved.split("/stand")
                self.assertEqual(other.say("web " + first), "done")
                for row in ("stand" + rest[0]).split("/") if rest else ():
                    self.assertEqual(other.say(row), "done")
                self.assertEqual(bool(rest), rooms is not None)
                self.assertEqual(other.say("save"), saved)
                for row in ("turns", "colours", "never", "never quiet"):
                    self.assertEqual(answer(other, row), answer(desk, row))


class TwoDesks(unittest.TestCase):
    def test_by_turns(self):
        one, other = Desk(), Desk()
        talks = (["ring 4", "stand 0 1", "chalk 2", TO_CHALK, "run 9", "save", "colours"],
                 ["lane 3", "machine eyes", "stand 0 2", "colours", "run 9", "save", "part 0 1"])
        alone = [[answer(desk, row) for row in talk] for desk, talk in zip((Desk(), Desk()), talks)]
        told = [[], []]
        for rows in zip(*talks):
            told[0].append(answer(one, rows[0]))
            told[1].append(answer(other, rows[1]))
        self.assertEqual(told, alone)

    def test_one_knows_nothing_of_the_other(self):
        one, other = laid("ring 4", "stand 0 1", TO_CHALK), Desk()
        self.assertEqual(answer(other, "turns"), (Lacks, None))
        self.assertEqual(answer(other, "run 3"), (Lacks, None))
        other.say("lane 2")
        other.say("stand 0")
        self.assertEqual(one.say("save"), show_web(ring(4)).replace("\n", "/") + "/stand 0 1/chalk")
        self.assertEqual(other.say("save"), "room 1.0/room 0.0/stand 0/chalk")

    def test_drawn_talks_by_turns(self):
        dice = Dice(164)
        rows = ASKED + ["ring 3", "lane 4", "stand 0 2", "stand 1", "chalk 1", "machine eyes", TO_CHALK, "web room",
                        "none"]
        for _ in range(20):
            desks, alone = [Desk(), Desk()], [DeskByWords(), DeskByWords()]
            for _ in range(60):
                k, row = dice.roll(2), dice.pick(rows)
                self.assertEqual(answer(desks[k], row), answer(alone[k], row))


class SmallStandings(unittest.TestCase):
    def test_all_standings_of_small_webs(self):
        for web in (ring(3), lane(3), ring(4)):
            for rooms in sets_of(len(web))[1:]:
                for chalk in sets_of(len(web)):
                    desk = laid("web " + show_web(web).replace("\n", "/"), " ".join(map(str, ("stand",) + rooms)),
                                " ".join(map(str, ("chalk",) + chalk)))
                    for quiet, row in ((False, "never"), (True, "never quiet")):
                        paper = never(web, (rooms, chalk), quiet)
                        words = (paper or ("no",))[:3]
                        words = ("colours",) + paper[1] if words[0] == "colours" else words
                        self.assertEqual(desk.say(row), " ".join(map(str, words)))
                    for chalking, row in ((True, "meet"), (False, "meet quiet")):
                        told = verdict(web, rooms, chalking)
                        self.assertEqual(desk.say(row), f"by {told[2]}" if told[0] == "meet" else told[0])


if __name__ == "__main__":
    unittest.main()
