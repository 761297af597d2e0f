import re
import unittest

from helper import (BLIND, EYES, Dice, big_webs, drawn_machine, drawn_standing, drawn_web, is_same, is_told, small_webs,
                    strange_things)
from ringmeet.errors import MeetError, NoText
from ringmeet.machines import is_machine
from ringmeet.reading import read_machine, read_standing, read_web
from ringmeet.showing import show_machine, show_standing, show_web
from ringmeet.standings import is_standing
from ringmeet.webs import is_web, lane, ring

NUMBER = "(?:0|[1-9][0-9]{0,3})"
PART = f"(?:-|{NUMBER})"
ROOM = re.compile(rf"room(?: {NUMBER}\.{NUMBER})*")
SEEING = re.compile("eyes(?: (?:came|chalk|doors|others))*")
DEED = re.compile(rf"{NUMBER} {PART} {PART} {PART} {PART} > {NUMBER} (?:leave|mark|wipe) {PART}")
STAND = re.compile(f"stand(?: {NUMBER})*")
CHALK = re.compile(f"chalk(?: {NUMBER})*")

# Signs to put in the place of others: figures that Python takes for such, blanks that are none, ends of rows.
SIGNS = list(" 0123456789.->/-+_amk~\n\t\r\x0b\x0c\x1c\x85\u00b2\u0663\u00a0\u2028") + [""]


def number_of(word):
    return None if word == "-" else int(word)


def web_by_words(text):
    rows = text.split("\n")
    for at, row in enumerate(rows):
        if not ROOM.fullmatch(row):
            return at
    web = tuple(tuple(tuple(map(int, door.split("."))) for door in row.split(" ")[1:]) for row in rows)
    return web if is_web(web) else len(rows)


def machine_by_words(text):
    rows = text.split("\n")
    for at, row in enumerate(rows):
        if not (DEED if at else SEEING).fullmatch(row):
            return at
    found = []
    for row in rows[1:]:
        mood, *sight, arrow, other, hand, step = row.split(" ")
        found.append(((int(mood), tuple(map(number_of, sight))), (int(other), hand, number_of(step))))
    machine = (tuple(rows[0].split(" ")[1:]), tuple(found))
    return machine if is_machine(machine) else len(rows)


def standing_by_words(web, text):
    rows = text.split("\n")
    for at, row in enumerate(rows):
        if at > 1 or not (CHALK if at else STAND).fullmatch(row):
            return at
    standing = tuple(tuple(map(int, row.split(" ")[1:])) for row in rows)
    return standing if len(rows) == 2 and is_standing(web, standing) else len(rows)


def texts_otherwise(text):
    """The text with one sign otherwise at any place, one more or fewer; with rows exchanged, twice or left out."""
    for k in range(len(text) + 1):
        for sign in SIGNS:
            yield text[:k] + sign + text[k:]
            yield text[:k] + sign + text[k + 1:]
    rows = text.split("\n")
    for k, row in enumerate(rows):
        yield "\n".join(rows[:k] + rows[k + 1:])
        yield "\n".join(rows[:k] + [row] + rows[k:])
        yield "\n".join(rows[:k] + ["", row] + rows[k + 1:])
        for n in range(k):
            yield "\n".join(rows[:n] + [row] + rows[n + 1:k] + [rows[n]] + rows[k + 1:])
    yield text.upper()
    yield text.replace("\n", "\r\n")
    yield text.replace(" ", "  ")
    yield text + text
    yield text + "\n" + text


class Reading(unittest.TestCase):
    def reads(self, read, text, asked):
        """Look at what is read of a text: a thing, or refused with this row."""
        if type(asked) is int:
            with self.assertRaises(NoText) as caught:
                read(text)
            self.assertIs(type(caught.exception), NoText)
            self.assertIs(type(caught.exception.row), int)
            self.assertEqual(caught.exception.row, asked, text)
            self.assertIsInstance(caught.exception, MeetError)
        else:
            told = read(text)
            self.assertTrue(is_told(told))
            self.assertTrue(is_same(told, asked), (text, told))

    def no_texts(self, read):
        for thing in strange_things():
            if not isinstance(thing, str):
                self.reads(read, thing, 0)
        for thing in (b"room", ["room"], ("room",), {"room": 1}, bytearray(b"eyes"), [["eyes"]], ("stand 0", "chalk")):
            self.reads(read, thing, 0)


class ReadWeb(Reading):
    def test_very_texts(self):
        self.reads(read_web, "room", lane(1))
        self.reads(read_web, "room 1.1 2.0\nroom 2.1 0.0\nroom 0.1 1.0", ring(3))
        self.reads(read_web, "room 0.1 0.0", ring(1))

    def test_rows_that_have_not_their_form(self):
        for row in ("", " ", "room ", " room", "room  0.1", "room 0.1 ", "Room", "rooms", "roo", "room0.1", "room 0",
                    "0.1", "room 0.", "room .0", "room 0.1.2", "room 0.01", "room 00.1", "room 01.1", "room 12345.0",
                    "room 0.12345", "room -1.0", "room +1.0", "room 0.1,0.0", "room 0,1", "room 0.1\t0.0", "room\t0.1",
                    "room 0. 1", "room a.b", "room 1_0.0", "room \u0661.0", "room \u00b2.0", "chalk", "eyes",
                    "room room", "room 0.1 room", "room 0.-", "room\r"):
            for at in range(4):
                rows = ["room 1.0"] * at + [row] + ["room"] * (3 - at)
                self.reads(read_web, "\n".join(rows), at)
                # The first of two.
                self.reads(read_web, "\n".join(rows + [row]), at)

    def test_right_rows_that_make_no_web(self):
        for text in ("room 0.0", "room 1.0", "room\nroom", "room 1.0\nroom", "room 1.0\nroom 0.1", "room 9999.9999",
                     "room 1.0\nroom 0.0 0.2", "room 0.1 0.0 0.3 0.2 0.4", "room 1.0\nroom 0.0\nroom",
                     "room 0.1 0.0 9.9", "room 0.1 0.0 0.3 0.2 0.5 0.4", "room 2.0\nroom 0.0",
                     "room 1.0\nroom 0.0\nroom 3.0\nroom 2.0"):
            self.reads(read_web, text, len(text.split("\n")))
        nine = "\n".join(["room 1.0"] + [f"room {k - 1}.{min(k - 1, 1)} {k + 1}.0" for k in range(1, 8)] + ["room 7.1"])
        self.reads(read_web, nine, 9)
        self.reads(read_web, "\n".join(["room"] * 700), 700)

    def test_line_feeds_more(self):
        text = show_web(lane(3))
        self.reads(read_web, "", 0)
        self.reads(read_web, "\n", 0)
        self.reads(read_web, "\n" + text, 0)
        self.reads(read_web, text + "\n", 3)
        self.reads(read_web, text.replace("\n", "\n\n", 1), 1)

    def test_one_sign_otherwise_at_any_place(self):
        taken = 0
        for web in (lane(1), ring(1), lane(3), ring(3), (((0, 1), (0, 0), (0, 3), (0, 2)),)):
            for text in texts_otherwise(show_web(web)):
                asked = web_by_words(text)
                taken += type(asked) is tuple
                self.reads(read_web, text, asked)
        self.assertGreater(taken, 3)

    def test_drawn_webs(self):
        dice = Dice(151)
        for web in small_webs(3, 4) + big_webs() + [drawn_web(dice, 1 + k % 8) for k in range(30)]:
            text = show_web(web)
            for _ in range(25):
                k = dice.roll(len(text) + 1)
                other = text[:k] + dice.pick(SIGNS) + text[k + dice.roll(2):]
                self.reads(read_web, other, web_by_words(other))

    def test_things_of_all_kinds(self):
        self.no_texts(read_web)
        for text in [thing for thing in strange_things() if isinstance(thing, str)]:
            self.reads(read_web, text, web_by_words(text))


class ReadMachine(Reading):
    ROWS = (((0, (None, 0, None, None)), (0, "leave", 0)), ((0, (None, 1, None, None)), (1, "mark", None)),
            ((12, (None, 0, None, None)), (3999, "wipe", 3)))

    def test_very_texts(self):
        self.reads(read_machine, "eyes", ((), ()))
        self.reads(read_machine, "eyes came chalk doors others", (EYES, ()))
        self.reads(read_machine, "eyes\n0 - - - - > 0 leave -", ((), (((0, BLIND), (0, "leave", None)),)))
        self.reads(read_machine, "eyes chalk\n0 - 0 - - > 0 leave 0\n0 - 1 - - > 1 mark -\n12 - 0 - - > 3999 wipe 3",
                   (("chalk",), self.ROWS))

    def test_eyes_that_have_not_their_form(self):
        for row in ("", " eyes", "eyes ", "eyes  came", "eye", "Eyes", "eyes Came", "eyes mark", "eyes came,chalk",
                    "came", "eyes eyes", "eyes -", "eyes 0", "0 - - - - > 0 leave -", "eyes came ", "eyescame", "room",
                    "eyes\r"):
            self.reads(read_machine, row, 0)
            self.reads(read_machine, row + "\n0 - - - - > 0 leave -", 0)

    def test_eyes_of_the_right_form_that_are_none(self):
        for row in ("eyes came came", "eyes chalk came", "eyes others doors chalk came", "eyes came chalk came"):
            self.reads(read_machine, row, 1)
            self.reads(read_machine, row + "\n0 0 0 - - > 0 leave -", 2)
            self.reads(read_machine, row + "\nnone", 1)

    def test_rows_that_have_not_their_form(self):
        for row in ("", "eyes", "- - - - - > 0 leave -", "0 - - - - > - leave -", "0 - - - > 0 leave -",
                    "0 - - - - > 0 leave", "0 - - - - - > 0 leave -", "0 - - - - > 0 leave - -", "0 - - - - 0 leave -",
                    "0 - - - - = 0 leave -", "0 - - - - > 0 Leave -", "0 - - - - > 0 - -", "0 - - - - > 0 chalk -",
                    "0 - - - - >  0 leave -", " 0 - - - - > 0 leave -", "0 - - - - > 0 leave - ",
                    "00 - - - - > 0 leave -", "01 - - - - > 0 leave -", "10000 - - - - > 0 leave -",
                    "0 - - - - > 12345 leave -", "0 00000 - - - > 0 leave -", "0 - - - - > 0 leave 00000",
                    "0 - - - - > 0 leave --", "0 None - - - > 0 leave -", "0 -1 - - - > 0 leave -",
                    "0 - - - - > 0 leave -1", "0 - - - - > 0 0 leave", "0\t- - - - > 0 leave -",
                    "0 \u00b2 - - - > 0 leave -", "\u0660 - - - - > 0 leave -", "0 - - - -> 0 leave -",
                    "0 - - - - > 0 leave -\r", "0 - - - - > 0 leave +1"):
            for at in range(1, 4):
                rows = ["eyes"] + [f"{k} - - - - > 0 leave -" for k in range(at - 1)] + [row, "5 - - - - > 0 leave -"]
                self.reads(read_machine, "\n".join(rows), at)
                self.reads(read_machine, "\n".join(rows + [row]), at)
                # Of the right form, though they make no machine: so the row at fault is the later one.
                self.reads(read_machine, "\n".join(["eyes came came"] + rows[1:]), at)

    def test_right_rows_that_make_no_machine(self):
        good = "0 - 0 - - > 0 leave 0"
        for rows in (["0 - - - - > 0 leave 0"], ["0 0 0 - - > 0 leave 0"], ["0 - 2 - - > 0 leave 0"],
                     ["4000 - 0 - - > 0 leave 0"], ["9999 - 0 - - > 0 leave 0"], ["0 - 0 - - > 4000 leave 0"],
                     ["0 - 0 - - > 0 leave 4"], ["0 - 0 - - > 0 leave 9999"], [good, good],
                     ["1 - 0 - - > 0 leave 0", good], ["0 - 1 - - > 0 leave 0", good], [good, "0 - 0 - - > 0 leave 1"],
                     ["0 - 0 0 - > 0 leave 0"], ["0 - 0 - 0 > 0 leave 0"], ["0 - 9999 - - > 0 leave 0"]):
            self.reads(read_machine, "\n".join(["eyes chalk"] + rows), 1 + len(rows))
            self.reads(read_machine, "\n".join(["eyes chalk"] + rows + ["none"]), 1 + len(rows))
        bounds = {"came": 5, "chalk": 2, "doors": 5, "others": 2}
        for at, eye in enumerate(EYES):
            for number in range(7):
                parts = ["-"] * 4
                parts[at] = str(number)
                row = f"0 {' '.join(parts)} > 0 leave -"
                sight = tuple(number if k == at else None for k in range(4))
                good = ((eye,), (((0, sight), (0, "leave", None)),))
                self.reads(read_machine, f"eyes {eye}\n{row}", good if number < bounds[eye] else 2)
                self.reads(read_machine, f"eyes\n{row}", 2)

    def test_too_many_rows(self):
        rows = [f"{mood} - 0 - - > 0 leave 0\n{mood} - 1 - - > 0 leave 0" for mood in range(2000)]
        self.assertEqual(len(read_machine("eyes chalk\n" + "\n".join(rows))[1]), 4000)
        self.reads(read_machine, "eyes chalk\n" + "\n".join(rows) + "\n2000 - 0 - - > 0 leave 0", 4002)

    def test_line_feeds_more(self):
        text = show_machine((("chalk",), self.ROWS))
        self.reads(read_machine, "", 0)
        self.reads(read_machine, "\n" + text, 0)
        self.reads(read_machine, text + "\n", 4)
        self.reads(read_machine, "eyes\n", 1)
        self.reads(read_machine, text.replace("\n", "\n\n", 1), 1)

    def test_one_sign_otherwise_at_any_place(self):
        taken = 0
        for machine in ((("chalk",), self.ROWS), ((), ()), (EYES, (((0, (4, 1, 0, 1)), (10, "wipe", None)),))):
            for text in texts_otherwise(show_machine(machine)):
                asked = machine_by_words(text)
                taken += type(asked) is tuple
                self.reads(read_machine, text, asked)
        self.assertGreater(taken, 20)

    def test_drawn_machines(self):
        dice = Dice(152)
        for _ in range(40):
            text = show_machine(drawn_machine(dice, dice.some(EYES)[:2], 2))
            for _ in range(12):
                k = dice.roll(len(text) + 1)
                other = text[:k] + dice.pick(SIGNS) + text[k + dice.roll(2):]
                self.reads(read_machine, other, machine_by_words(other))

    def test_things_of_all_kinds(self):
        self.no_texts(read_machine)
        for text in [thing for thing in strange_things() if isinstance(thing, str)]:
            self.reads(read_machine, text, machine_by_words(text))


class ReadStanding(Reading):
    def reads_in(self, web, text, asked):
        self.reads(lambda some: read_standing(web, some), text, asked)

    def test_very_texts(self):
        self.reads_in(ring(3), "stand 0\nchalk", ((0,), ()))
        self.reads_in(ring(3), "stand 0 1 2\nchalk 1 2", ((0, 1, 2), (1, 2)))

    def test_rows_that_have_not_their_form(self):
        for row in ("", "stand", "chalk", "stand 0", "chalk 0", "stan 0", "Stand 0", "stand  0", "stand 0 ", " stand 0",
                    "stand 00", "stand 01", "stand 10000", "stand -", "stand -1", "stand 0,1", "stand 0.1", "stand a",
                    "chalk ", "chalk  0", "chalk 12345", "chalk 0\t1", "stand 0\r", "chalk\r", "stand \u00b2", "room",
                    "eyes", "0"):
            first, second = STAND.fullmatch(row), CHALK.fullmatch(row)
            self.reads_in(ring(8), row + "\nchalk", standing_by_words(ring(8), row + "\nchalk") if first else 0)
            self.reads_in(ring(8), "stand 0\n" + row, standing_by_words(ring(8), "stand 0\n" + row) if second else 1)
            self.reads_in(ring(8), row, 1 if first else 0)

    def test_a_row_that_is_lacking(self):
        for text in ("stand", "stand 0", "stand 0 1", "stand 9999", "stand 1 0"):
            self.reads_in(ring(3), text, 1)

    def test_a_third_row(self):
        for third in ("", "chalk", "stand 0", "room", "chalk 0\nchalk", "\n", "\n\n"):
            for two in ("stand 0\nchalk", "stand\nchalk", "stand 0\nchalk 9999", "stand 2 1\nchalk"):
                self.reads_in(ring(3), two + "\n" + third, 2)
        self.reads_in(ring(3), "stand 0\nchalks\nchalk", 1)
        self.reads_in(ring(3), "stands 0\nchalk\nchalk", 0)

    def test_right_rows_that_make_no_standing(self):
        for text in ("stand\nchalk", "stand\nchalk 0", "stand 1 0\nchalk", "stand 0 0\nchalk", "stand 0\nchalk 1 0",
                     "stand 0\nchalk 1 1", "stand 3\nchalk", "stand 0 3\nchalk", "stand 0\nchalk 3",
                     "stand 9999\nchalk"):
            self.reads_in(ring(3), text, 2)

    def test_rooms_beyond_the_webs(self):
        for many in range(1, 9):
            for room in range(10):
                self.reads_in(ring(many), f"stand {room}\nchalk", ((room,), ()) if room < many else 2)
                self.reads_in(ring(many), f"stand 0\nchalk {room}", ((0,), (room,)) if room < many else 2)

    def test_one_sign_otherwise_at_any_place(self):
        taken = 0
        for standing in (((0,), ()), ((0, 2), (1,)), ((1, 2, 3), (0, 3))):
            for text in texts_otherwise(show_standing(standing)):
                asked = standing_by_words(ring(4), text)
                taken += type(asked) is tuple
                self.reads_in(ring(4), text, asked)
        self.assertGreater(taken, 20)

    def test_drawn_standings(self):
        dice = Dice(153)
        for k in range(60):
            web = drawn_web(dice, 1 + k % 8)
            text = show_standing(drawn_standing(dice, web))
            for _ in range(12):
                at = dice.roll(len(text) + 1)
                other = text[:at] + dice.pick(SIGNS) + text[at + dice.roll(2):]
                self.reads_in(web, other, standing_by_words(web, other))

    def test_things_of_all_kinds(self):
        for web in (ring(3), lane(1)):
            self.no_texts(lambda thing: read_standing(web, thing))
            for text in [thing for thing in strange_things() if isinstance(thing, str)]:
                self.reads_in(web, text, standing_by_words(web, text))


if __name__ == "__main__":
    unittest.main()
