import unittest

from helper import Dice, big_webs, cover_webs, drawn_web, is_told, lifts, room_orders, sets_of, small_webs
from ringmeet.colours import all_unlike, colouring
from ringmeet.machines import is_machine
from ringmeet.naming import renamed
from ringmeet.nevers import never, shows_never
from ringmeet.quiet import is_quiet
from ringmeet.runs import run
from ringmeet.verdicts import verdict
from ringmeet.webs import lane, ring


def may_be_open(web, rooms, chalking):
    colours = colouring(web, (0,) * len(web))
    unlike = all_unlike([colours[room] for room in rooms])
    return not chalking and len(rooms) >= 3 and unlike and not all_unlike(colours)


class Verdict(unittest.TestCase):
    def told(self, web, rooms, chalking):
        """Look at all that is promised of a verdict; tell its first word."""
        told = verdict(web, rooms, chalking)
        self.assertTrue(is_told(told))
        paper = never(web, (rooms, ()), not chalking)
        if told[0] == "never":
            self.assertEqual(told, ("never", paper))
            self.assertIs(shows_never(web, (rooms, ()), not chalking, paper), True)
        elif told[0] == "meet":
            self.assertIsNone(paper)
            self.meets(web, rooms, chalking, *told[1:])
        else:
            self.assertEqual(told, ("open", None))
            self.assertTrue(may_be_open(web, rooms, chalking))
        return told[0]

    def meets(self, web, rooms, chalking, machine, beats):
        self.assertIs(is_machine(machine), True)
        self.assertIn(beats, range(401))
        self.assertEqual(run(web, machine, (rooms, ()), beats)[0], "met", (web, rooms, chalking))
        if not chalking:
            self.assertIs(is_quiet(machine, len(rooms)), True)

    def test_written_out(self):
        self.assertEqual(verdict(ring(4), (0, 2), True), ("never", ("colours", (0, 1, 0, 1))))
        self.assertEqual(verdict(ring(4), (0, 2), False), ("never", ("colours", (0, 1, 0, 1))))
        self.assertEqual(verdict(ring(4), (0, 1), False), ("never", ("alike", 0, 1, (0, 0, 0, 0))))
        self.assertEqual(verdict(ring(4), (0, 1), True)[0], "meet")
        self.assertEqual(verdict(lane(3), (0, 2), False)[0], "meet")
        self.assertEqual(verdict(lane(2), (0, 1), True), ("never", ("colours", (0, 0))))

    def test_one_walker_always_meets(self):
        for web in small_webs(3, 6) + big_webs() + cover_webs():
            for room in range(len(web)):
                for chalking in (False, True):
                    self.assertEqual(self.told(web, (room,), chalking), "meet")

    def test_small_webs(self):
        words = set()
        for web in small_webs(3, 6) + small_webs(4, 6)[::11]:
            for rooms in sets_of(len(web))[1:]:
                for chalking in (False, True):
                    words.add((self.told(web, rooms, chalking), chalking))
        self.assertLessEqual({("never", False), ("never", True), ("meet", False), ("meet", True)}, words)

    def test_all_standings_of_big_webs(self):
        for web in big_webs()[:7:3] + [ring(8), ring(6), ring(7), lane(6), lifts()[0][0], lifts()[2][0]]:
            for rooms in sets_of(len(web))[1:]:
                for chalking in (False, True):
                    self.told(web, rooms, chalking)

    def test_two_walkers_are_never_open(self):
        for web in small_webs(4, 6)[::5] + big_webs() + cover_webs():
            for rooms in [rooms for rooms in sets_of(len(web)) if len(rooms) == 2]:
                for chalking in (False, True):
                    self.assertIn(self.told(web, rooms, chalking), ("never", "meet"))

    def test_walkers_that_chalk_are_never_open(self):
        dice = Dice(71)
        for web in cover_webs() + big_webs() + [drawn_web(dice, 1 + k % 8) for k in range(24)]:
            for _ in range(8):
                rooms = dice.some(range(len(web)), 1)
                word = self.told(web, rooms, True)
                self.assertEqual(word, "never" if never(web, (rooms, ()), False) else "meet")

    def test_three_walkers_that_do_not_chalk(self):
        """Where all rooms look unlike, they meet; a web that covers a smaller one is spoken of, too."""
        covers = [web for web, few in lifts() if few > 2]
        self.assertTrue(covers)
        for web in covers + [lane(5)] + small_webs(4, 6)[::40]:
            for rooms in [rooms for rooms in sets_of(len(web)) if len(rooms) >= 3]:
                word = self.told(web, rooms, False)
                if all_unlike(colouring(web, (0,) * len(web))):
                    self.assertEqual(word, "meet")

    def test_numbered_otherwise_told_alike(self):
        dice = Dice(72)
        for web in big_webs()[:8] + cover_webs() + small_webs(3, 4):
            for order in room_orders(web):
                rooms = dice.some(range(len(web)), 1)
                moved = tuple(sorted(order[room] for room in rooms))
                for chalking in (False, True):
                    one, other = verdict(web, rooms, chalking), verdict(renamed(web, order), moved, chalking)
                    self.assertEqual(one[0], other[0])
                    if one[0] == "meet":
                        self.assertEqual(one, other)


if __name__ == "__main__":
    unittest.main()
