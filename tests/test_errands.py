import itertools
import unittest

from helper import (ALL_EYES, BLIND, EYES, HANDS, STEPS, Dice, big_webs, changed, cover_webs, drawn_machine,
                    drawn_standing, in_list, in_tuple, is_same, is_told, nested, other_kinds, sights_of, small_webs,
                    strange_things)
from ringmeet.beats import is_met, sight_of
from ringmeet.errands import deeds, does, fields_of, fits, is_errand
from ringmeet.nevers import never
from ringmeet.runs import most_chalk, run, walked
from ringmeet.standings import standings
from ringmeet.webs import lane, ring

FIELD = (lane(3), ((0, 2), ()))
PARTS = ("fields", "eyes", "hands", "steps", "moods", "chalk", "beats")
ONE, TWO = (None, None, 1, None), (None, None, 2, None)


def errand_of(**parts):
    """An errand, ordinary but for the parts told."""
    usual = {"fields": (FIELD,), "eyes": ("doors",), "hands": ("leave",), "steps": (None, 0), "moods": 1, "chalk": 0,
             "beats": 5}
    usual.update(parts)
    return tuple(usual[part] for part in PARTS)


class IsErrand(unittest.TestCase):
    def takes(self, asked, **parts):
        self.assertIs(is_errand(errand_of(**parts)), asked, parts)

    def test_ordinary(self):
        self.takes(True)
        self.takes(True, fields=((ring(4), ((0, 2), (1,))), (lane(1), ((0,), ()))), eyes=EYES, hands=HANDS, steps=STEPS,
                   moods=3, chalk=8, beats=40)

    def test_how_many_fields(self):
        for many in range(10):
            self.takes(1 <= many <= 6, fields=(FIELD,) * many)

    def test_fields_that_are_none(self):
        bad = [
            (), (lane(3),), FIELD + ((),), (((0, 2), ()), lane(3)), (lane(3), ((2, 0), ())), (lane(3), ((0, 3), ())),
            (lane(3), ((), ())), (lane(3), ((0, 0), ())), (lane(3), ((0,),)), (lane(3), ((0,), (3,))), (lane(3), (0,)),
            ((((0, 0),),), ((0,), ())), ((), ((0,), ())), (((), ()), ((0,), ())), ((((1, 0),), ((0, 1),)), ((0,), ())),
            (ring(8) + ring(1), ((0,), ())), (None, ((0,), ())), (lane(3), None), None, 0, lane(3), [FIELD],
        ]
        for field in bad:
            for at in range(3):
                self.takes(False, fields=(FIELD,) * at + (field,) + (FIELD,) * (2 - at))

    def test_eyes(self):
        for many in range(6):
            for eyes in itertools.product(EYES, repeat=many):
                self.takes(eyes in ALL_EYES, eyes=eyes)
        for eyes in (("mark",), ("",), (b"came",), (0,), None, "came", ("came", None), ["came"], {"came"}):
            self.takes(False, eyes=eyes)

    def test_hands(self):
        good = [hands for many in (1, 2, 3) for hands in itertools.combinations(HANDS, many)]
        for many in range(5):
            for hands in itertools.product(HANDS, repeat=many):
                self.takes(hands in good, hands=hands)
        for hands in (("chalk",), ("",), (b"mark",), (0,), None, "mark", ("leave", None), ["mark"], {"mark"}, ((),)):
            self.takes(False, hands=hands)

    def test_steps(self):
        good = [steps for many in range(1, 6) for steps in itertools.combinations(STEPS, many)]
        for many in range(6):
            for steps in itertools.product(STEPS, repeat=many):
                self.takes(steps in good, steps=steps)
        for steps in ((4,), (-1,), (-1, 0), (None, -1), (10 ** 30,), (True,), (False,), (None, False), ("0",), ((),),
                      None, 0, "0", [0], {0}, (0, [1]), (0, 1, 2, 3, 4)):
            self.takes(False, steps=steps)

    def test_moods_chalk_and_beats(self):
        for part, least, most in (("moods", 1, 3), ("chalk", 0, 8), ("beats", 0, 40)):
            for number in list(range(-3, 60)) + [-(10 ** 30), 10 ** 30, 4000]:
                self.takes(least <= number <= most, **{part: number})
            for thing in (None, True, False, "1", b"1", (1,), [1], {}, ()):
                self.takes(False, **{part: thing})

    def test_other_than_seven_parts(self):
        errand = errand_of()
        for many in range(7):
            self.assertIs(is_errand(errand[:many]), False)
            self.assertIs(is_errand(errand[:many] + errand[many + 1:]), False)
        self.assertIs(is_errand(errand + (0,)), False)
        self.assertIs(is_errand((errand,)), False)

    def test_other_kinds(self):
        errands = (errand_of(), errand_of(steps=(0, 1), beats=1, chalk=1, hands=HANDS),
                   errand_of(fields=((ring(2), ((0,), (1,))), (lane(1), ((0,), ()))), eyes=("came", "chalk")))
        for errand in errands:
            self.assertIs(is_errand(errand), True)
            for at, part in enumerate(PARTS):
                for thing in changed(errand[at], self.not_a_step if part == "steps" else other_kinds):
                    self.assertIs(is_errand(errand[:at] + (thing,) + errand[at + 1:]), False, thing)
            for thing in other_kinds(errand):
                self.assertIs(is_errand(thing), False)

    def not_a_step(self, thing):
        """Other kinds, but None in the place of a first number, which is a step itself."""
        return [other for other in other_kinds(thing) if not (other is None and isinstance(thing, int))]

    def test_things_of_all_kinds(self):
        usual = errand_of(eyes=("came",), chalk=3, beats=3, moods=3)
        # What may stand there, of all these things.
        good = {"fields": [], "eyes": [(), ("came",)], "hands": [], "steps": [(None,), (None, 0)], "moods": [1, 2],
                "chalk": [0, 1, 2], "beats": [0, 1, 2]}
        for thing in strange_things():
            self.assertIs(is_errand(thing), False)
            self.assertIs(is_errand((thing,) * 7), False)
            for at, part in enumerate(PARTS):
                asked = any(is_same(thing, other) for other in good[part])
                self.assertIs(is_errand(usual[:at] + (thing,) + usual[at + 1:]), asked, (part, thing))

    def test_nested_forty_deep(self):
        usual = errand_of()
        for core in ((), 0, None, "came", []):
            for wrap in (in_tuple, in_list):
                for at in range(7):
                    for deep in (36, 38):
                        thing = nested(deep, wrap, core)
                        self.assertIs(is_errand(usual[:at] + (thing,) + usual[at + 1:]), False)
                        self.assertIs(is_errand(usual[:at] + ((thing,),) + usual[at + 1:]), False)


class FieldsOf(unittest.TestCase):
    def test_written_out(self):
        self.assertEqual(fields_of(ring(4), 2, False), ((ring(4), ((0, 1), ())),))
        self.assertEqual(fields_of(ring(4), 2, True), ())
        self.assertEqual(fields_of(ring(4), 1, True), ((ring(4), ((0,), ())),))
        self.assertEqual(fields_of(lane(3), 2, True),
                         ((lane(3), ((0, 1), ())), (lane(3), ((0, 2), ())), (lane(3), ((1, 2), ()))))
        self.assertEqual([standing for web, standing in fields_of(ring(6), 3, False)],
                         [((0, 1, 2), ()), ((0, 1, 3), ()), ((0, 1, 4), ())])

    def test_by_the_documents_words(self):
        for web in small_webs(3, 6) + big_webs() + cover_webs():
            for many in range(1, len(web) + 1):
                for quiet in (False, True):
                    told = fields_of(web, many, quiet)
                    self.assertTrue(is_told(told))
                    asked = [(web, (rooms, ())) for rooms in standings(web, many)
                             if never(web, (rooms, ()), quiet) is None]
                    self.assertEqual(told, tuple(asked))

    def test_they_are_fields(self):
        for quiet in (False, True):
            fields = fields_of(lane(4), 2, quiet)
            self.assertEqual(len(fields), 6)
            self.assertIs(is_errand(errand_of(fields=fields)), True)


class Fits(unittest.TestCase):
    def machine(self, **parts):
        """A machine that fits, but for the parts told of one of its rows."""
        usual = {"key": 1, "sight": TWO, "mood": 1, "hand": "mark", "step": 0}
        usual.update(parts)
        row = ((usual["key"], usual["sight"]), (usual["mood"], usual["hand"], usual["step"]))
        return ("doors",), (((0, ONE), (1, "leave", None)), row)

    def test_each_part_otherwise_once(self):
        errand = errand_of(hands=("leave", "mark"), moods=2)
        self.assertIs(fits(errand, self.machine()), True)
        for parts in ({"key": 2}, {"key": 3999}, {"mood": 2}, {"mood": 3999}, {"hand": "wipe"}, {"step": 1},
                      {"step": 3}):
            self.assertIs(fits(errand, self.machine(**parts)), False, parts)
        for parts in ({"mood": 0}, {"hand": "leave"}, {"step": None}):
            self.assertIs(fits(errand, self.machine(**parts)), True, parts)
        self.assertIs(fits(errand_of(hands=("leave", "mark"), moods=1), self.machine()), False)
        self.assertIs(fits(errand_of(hands=("mark",), moods=2), self.machine()), False)
        self.assertIs(fits(errand_of(hands=("leave", "mark"), moods=2, steps=(0,)), self.machine()), False)

    def test_the_first_row_counts_as_well(self):
        good = (((1, ONE), (1, "leave", 0)),)
        for deed in ((2, "leave", 0), (0, "mark", 0), (0, "leave", 1)):
            self.assertIs(fits(errand_of(moods=2), (("doors",), (((0, ONE), deed),) + good)), False)

    def test_eyes(self):
        for eyes in ALL_EYES:
            for other in ALL_EYES:
                self.assertIs(fits(errand_of(eyes=eyes), (other, ())), eyes == other)
                full = other, tuple(((0, sight), (0, "leave", 0)) for sight in sights_of(other))
                self.assertIs(fits(errand_of(eyes=eyes), full), eyes == other)

    def test_none_among_the_steps_or_not(self):
        for steps in itertools.combinations(STEPS, 2):
            for step in STEPS:
                machine = (), (((0, BLIND), (0, "leave", step)),)
                self.assertIs(fits(errand_of(eyes=(), steps=steps), machine), step in steps)

    def test_chalk_beats_and_fields_tell_nothing(self):
        machine = (), (((0, BLIND), (0, "mark", 0)),)
        for chalk, beats in ((0, 0), (8, 40)):
            self.assertIs(fits(errand_of(eyes=(), hands=("mark",), chalk=chalk, beats=beats), machine), True)


def slowly(errand, machine):
    """What does must tell, by the document's words, field by field and t by t."""
    fields, eyes, hands, steps, moods, chalk, beats = errand
    last = 0
    for j, (web, standing) in enumerate(fields):
        good = []
        for t in range(beats + 1):
            wholes = walked(web, machine, standing, t)
            wanted = [(walker[2], sight_of(web, machine[0], whole, k)) for whole in wholes[:-1]
                      for k, walker in enumerate(whole[0])]
            there = all(key in dict(machine[1]) for key in wanted)
            if is_met(wholes[-1]) and there and max(len(whole[1]) for whole in wholes) <= chalk:
                good.append(t)
        if not good:
            return ("fails", j)
        last = max(last, good[0])
    return ("does", last)


class Does(unittest.TestCase):
    # Ends go on by door 0, the room between stays: of lane(3) all come to the middle.
    MIDDLE = ("doors",), (((0, ONE), (0, "leave", 0)), ((0, TWO), (0, "leave", None)))
    # Goes on to a room that is chalked.
    ON = ("chalk",), (((0, (None, 0, None, None)), (0, "leave", 0)), ((0, (None, 1, None, None)), (0, "leave", None)))

    def test_met_at_just_beats_and_one_beat_beyond(self):
        self.assertEqual(does(errand_of(beats=1), self.MIDDLE), ("does", 1))
        self.assertEqual(does(errand_of(beats=0), self.MIDDLE), ("fails", 0))
        self.assertEqual(does(errand_of(beats=40), self.MIDDLE), ("does", 1))
        for many in range(2, 9):
            fields = ((ring(many), ((0, 1), (0,))),)
            for beats in range(12):
                asked = ("does", many - 1) if beats >= many - 1 else ("fails", 0)
                self.assertEqual(does(errand_of(fields=fields, beats=beats, chalk=1), self.ON), asked)

    def test_the_greatest_and_the_first_that_fails(self):
        near, far = (lane(3), ((0, 1), ())), (lane(3), ((0, 1, 2), ()))
        late = (ring(4), ((0, 1), ()))
        alone = (lane(2), ((1,), ()))
        self.assertEqual(does(errand_of(fields=(alone,)), self.MIDDLE), ("does", 0))
        self.assertEqual(does(errand_of(fields=(alone, near, far, alone)), self.MIDDLE), ("does", 1))
        for at in range(5):
            fields = (near,) * at + (late,) + (far,) * (4 - at) + (late,)
            self.assertEqual(does(errand_of(fields=fields), self.MIDDLE), ("fails", at))

    def test_the_greatest_at_any_place(self):
        fields = [(ring(many), ((0, 1), (0,))) for many in (3, 5, 7)]
        for order in itertools.permutations(fields):
            self.assertEqual(does(errand_of(fields=order, beats=6, chalk=1), self.ON), ("does", 6))
            late = order.index(fields[2])
            self.assertEqual(does(errand_of(fields=order, beats=5, chalk=1), self.ON), ("fails", late))

    def test_a_row_that_is_wanted_and_is_not_there(self):
        eyes, rows = self.MIDDLE
        near = (lane(3), ((0, 1), ()))
        # Who stays in the middle would do so without a row, too; but the row is wanted ahead of the meeting.
        self.assertEqual(run(lane(3), (eyes, rows[:1]), near[1], 5), ("met", 1))
        self.assertEqual(does(errand_of(fields=(near,)), (eyes, rows[:1])), ("fails", 0))
        self.assertEqual(does(errand_of(fields=(FIELD,)), (eyes, rows[:1])), ("does", 1))
        self.assertEqual(does(errand_of(fields=(FIELD, near)), (eyes, rows[:1])), ("fails", 1))
        self.assertEqual(does(errand_of(fields=(FIELD,)), (eyes, rows[1:])), ("fails", 0))
        self.assertEqual(does(errand_of(fields=((lane(3), ((1,), ())),)), (eyes, ())), ("does", 0))

    def test_chalk_at_just_the_bound_and_one_beyond(self):
        marks = ("doors",), (((0, ONE), (0, "mark", 0)), ((0, TWO), (0, "leave", None)))
        self.assertEqual(does(errand_of(chalk=2), marks), ("does", 1))
        self.assertEqual(does(errand_of(chalk=1), marks), ("fails", 0))
        self.assertEqual(does(errand_of(chalk=0), marks), ("fails", 0))

    def test_chalk_at_the_beginning(self):
        for chalked in range(4):
            for field in ((lane(3), ((0,), tuple(range(chalked)))), (lane(3), ((0, 2), tuple(range(chalked))))):
                for chalk in range(4):
                    told = does(errand_of(fields=(field,), chalk=chalk), self.MIDDLE)
                    self.assertEqual(told[0], "does" if chalked <= chalk else "fails")

    def test_chalk_that_is_wiped_on_the_way(self):
        rows = (((0, ONE), (1, "mark", None)), ((0, TWO), (1, "leave", None)), ((1, ONE), (1, "wipe", 0)),
                ((1, TWO), (1, "leave", None)))
        field = (lane(3), ((0, 1), ()))
        self.assertEqual(walked(lane(3), (("doors",), rows), field[1], 2)[-1][1], ())
        self.assertEqual(does(errand_of(fields=(field,), chalk=1), (("doors",), rows)), ("does", 2))
        self.assertEqual(does(errand_of(fields=(field,), chalk=0), (("doors",), rows)), ("fails", 0))

    def test_chalk_behind_the_meeting_does_not_count(self):
        rows = (((0, ONE), (0, "leave", 0)), ((0, TWO), (0, "mark", None)))
        self.assertEqual(most_chalk(lane(3), (("doors",), rows), FIELD[1], 2), 1)
        self.assertEqual(does(errand_of(chalk=0), (("doors",), rows)), ("does", 1))

    def test_machines_that_do_not_fit(self):
        errand = errand_of(eyes=("came",), hands=("wipe",), steps=(3,))
        self.assertIs(fits(errand, self.MIDDLE), False)
        self.assertEqual(does(errand, self.MIDDLE), ("does", 1))
        moods = ("doors",), (((0, ONE), (2, "leave", None)), ((2, ONE), (3999, "leave", 0)))
        self.assertIs(fits(errand_of(), moods), False)
        self.assertEqual(does(errand_of(), moods), ("does", 2))
        self.assertEqual(does(errand_of(), ((), ())), ("fails", 0))

    def test_by_the_documents_words(self):
        dice = Dice(81)
        told = set()
        for k in range(500):
            web = dice.pick(small_webs(3, 4) + big_webs() + [lane(3), lane(4), ring(3)])
            fields = tuple((web, drawn_standing(dice, web)) for _ in range(1 + dice.roll(2)))
            fields = tuple((web, (standing[0][:2], standing[1][:1])) for web, standing in fields)
            errand = errand_of(fields=fields, chalk=dice.roll(4), beats=dice.roll(7))
            machine = drawn_machine(dice, dice.pick(ALL_EYES), 2, lacking=20)
            answer = does(errand, machine)
            self.assertTrue(is_told(answer))
            self.assertEqual(answer, slowly(errand, machine))
            told.add(answer)
        self.assertGreater(len(told), 4)


class Deeds(unittest.TestCase):
    def test_written_out(self):
        errand = errand_of(hands=("leave", "wipe"), steps=(None, 2), moods=2)
        first = ((0, "leave", None), (0, "leave", 2), (0, "wipe", None), (0, "wipe", 2))
        second = ((1, "leave", None), (1, "leave", 2), (1, "wipe", None), (1, "wipe", 2))
        self.assertEqual(deeds(errand, 1), first + second)
        self.assertEqual(deeds(errand, 2), first + second)
        self.assertEqual(deeds(errand_of(), 1), ((0, "leave", None), (0, "leave", 0)))

    def test_all_of_them(self):
        for many in (1, 2, 3):
            for hands in itertools.combinations(HANDS, many):
                for steps in itertools.combinations(STEPS, many):
                    for moods in (1, 2, 3):
                        for named in range(1, moods + 1):
                            told = deeds(errand_of(hands=hands, steps=steps, moods=moods), named)
                            asked = itertools.product([mood for mood in range(named + 1) if mood < moods], hands, steps)
                            self.assertEqual(told, tuple(asked))
                            self.assertTrue(is_told(told))


if __name__ == "__main__":
    unittest.main()
