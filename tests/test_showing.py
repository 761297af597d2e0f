import unittest

from helper import (ALL_EYES, BLIND, EYES, HANDS, STEPS, Dice, big_webs, cover_webs, drawn_machine, drawn_standing,
                    drawn_web, sights_of, small_webs)
from ringmeet.gathering import gatherer
from ringmeet.quiet import marking
from ringmeet.reading import read_machine, read_standing, read_web
from ringmeet.showing import show_machine, show_standing, show_web
from ringmeet.webs import lane, ring


class VeryTexts(unittest.TestCase):
    def test_webs(self):
        self.assertEqual(show_web(ring(3)), "room 1.1 2.0\nroom 2.1 0.0\nroom 0.1 1.0")
        self.assertEqual(show_web(ring(1)), "room 0.1 0.0")
        self.assertEqual(show_web(lane(1)), "room")
        self.assertEqual(show_web(lane(2)), "room 1.0\nroom 0.0")
        self.assertEqual(show_web(lane(3)), "room 1.0\nroom 0.0 2.0\nroom 1.1")
        self.assertEqual(show_web((((0, 1), (0, 0), (0, 3), (0, 2)),)), "room 0.1 0.0 0.3 0.2")

    def test_machines(self):
        self.assertEqual(show_machine(((), ())), "eyes")
        self.assertEqual(show_machine((EYES, ())), "eyes came chalk doors others")
        self.assertEqual(show_machine(((), (((0, BLIND), (3999, "wipe", None)),))), "eyes\n0 - - - - > 3999 wipe -")
        rows = (((0, (0, 0, 0, 0)), (0, "leave", 0)), ((0, (4, 1, 4, 1)), (1, "mark", 3)),
                ((3999, (1, 0, 2, 1)), (10, "wipe", None)))
        self.assertEqual(show_machine((EYES, rows)), "eyes came chalk doors others\n0 0 0 0 0 > 0 leave 0\n"
                         "0 4 1 4 1 > 1 mark 3\n3999 1 0 2 1 > 10 wipe -")
        rows = (((0, (None, 0, None, None)), (0, "leave", 0)), ((0, (None, 1, None, None)), (0, "leave", None)))
        self.assertEqual(show_machine((("chalk",), rows)), "eyes chalk\n0 - 0 - - > 0 leave 0\n0 - 1 - - > 0 leave -")

    def test_standings(self):
        self.assertEqual(show_standing(((0,), ())), "stand 0\nchalk")
        self.assertEqual(show_standing(((0, 2), (1,))), "stand 0 2\nchalk 1")
        every = tuple(range(8))
        self.assertEqual(show_standing((every, every)), "stand 0 1 2 3 4 5 6 7\nchalk 0 1 2 3 4 5 6 7")


class ReadBack(unittest.TestCase):
    def test_webs(self):
        dice = Dice(141)
        webs = small_webs() + big_webs() + cover_webs() + [drawn_web(dice, 1 + k % 8) for k in range(200)]
        for web in webs + [lane(many) for many in range(1, 9)] + [ring(many) for many in range(1, 9)]:
            text = show_web(web)
            self.assertIs(type(text), str)
            self.assertEqual(read_web(text), web)
            self.assertEqual(show_web(read_web(text)), text)

    def test_machines(self):
        dice = Dice(142)
        machines = [(eyes, ()) for eyes in ALL_EYES]
        machines += [drawn_machine(dice, eyes, 1 + dice.roll(3), lacking=2 + k) for eyes in ALL_EYES for k in range(4)]
        machines += [((), (((mood, BLIND), (other, hand, step)),)) for mood in (0, 7, 10, 999, 1000, 3999)
                     for other in (0, 3999) for hand in HANDS for step in STEPS]
        for machine in machines:
            text = show_machine(machine)
            self.assertIs(type(text), str)
            self.assertEqual(read_machine(text), machine)

    def test_machines_that_are_told(self):
        machine, beats = gatherer(((ring(8), (tuple(range(8)), (0,))), (lane(8), ((0, 3, 7), ()))))
        for told in (machine, marking(machine)):
            self.assertEqual(read_machine(show_machine(told)), told)

    def test_a_machine_of_as_many_rows_as_may_be(self):
        rows = [((mood, sight), (mood, HANDS[mood % 3], STEPS[mood % 5]))
                for mood in range(40) for sight in sights_of(EYES)]
        machine = (EYES, tuple(rows))
        self.assertEqual(len(rows), 4000)
        self.assertEqual(read_machine(show_machine(machine)), machine)

    def test_standings(self):
        dice = Dice(143)
        for web in small_webs(3, 4) + big_webs() + [drawn_web(dice, 1 + k % 8) for k in range(60)]:
            for _ in range(6):
                standing = drawn_standing(dice, web)
                text = show_standing(standing)
                self.assertIs(type(text), str)
                self.assertEqual(read_standing(web, text), standing)


if __name__ == "__main__":
    unittest.main()
