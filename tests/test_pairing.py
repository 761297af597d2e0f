import itertools
import unittest

from helper import (Dice, big_webs, cover_webs, drawn_web, hangs_together, is_told, lifted, lifts, room_orders,
                    small_webs)
from ringmeet.colours import colouring
from ringmeet.machines import is_machine
from ringmeet.naming import renamed
from ringmeet.pairing import pairer
from ringmeet.quiet import is_quiet
from ringmeet.runs import run
from ringmeet.webs import lane, ring


class Pairer(unittest.TestCase):
    def pairs(self, web):
        """Look at all that is promised of the machine; tell how many pairs it brings together."""
        machine, beats = told = pairer(web)
        self.assertTrue(is_told(told))
        self.assertIs(is_machine(machine), True)
        self.assertEqual(machine[0], ("came", "doors"))
        self.assertIs(is_quiet(machine, 3), True)
        self.assertIn(beats, range(401))
        colours = colouring(web, (0,) * len(web))
        unlike = [pair for pair in itertools.combinations(range(len(web)), 2) if colours[pair[0]] != colours[pair[1]]]
        for pair in unlike:
            self.assertEqual(run(web, machine, (pair, ()), beats)[0], "met", (web, pair))
        return len(unlike)

    def test_small_webs(self):
        self.assertGreater(sum(self.pairs(web) for web in small_webs(4, 6)), 700)

    def test_big_webs(self):
        for web in big_webs():
            self.pairs(web)

    def test_rings_have_no_pair(self):
        for many in range(1, 9):
            self.assertEqual(self.pairs(ring(many)), 0)

    def test_lanes(self):
        for many in range(1, 9):
            self.assertEqual(self.pairs(lane(many)), 0 if many < 3 else many * (many - 1) // 2)

    def test_webs_that_cover_smaller_ones(self):
        for web, few in lifts():
            self.assertEqual(len(set(colouring(web, (0,) * len(web)))), few)
            self.assertEqual(self.pairs(web) > 0, few > 1)
        for web in cover_webs():
            self.pairs(web)

    def test_four_colours_of_two_rooms_each(self):
        bases = [
            (((1, 1), (3, 0)), ((2, 1), (0, 0)), ((3, 1), (1, 0), (2, 3), (2, 2)), ((0, 1), (2, 0))),
            (((1, 0), (0, 2), (0, 1)), ((0, 0), (2, 0)), ((1, 1), (3, 0)), ((2, 1),)),
            (((1, 0), (1, 1)), ((0, 0), (0, 1), (2, 0)), ((1, 2), (3, 0)), ((2, 1), (3, 2), (3, 1))),
        ]
        found = 0
        for base in bases:
            for room, doors in enumerate(base):
                for door in range(len(doors)):
                    web = lifted(base, 2, {(room, door): 1})
                    if hangs_together(web):
                        found += 1
                        self.assertEqual(self.pairs(web), 24)
        self.assertGreater(found, 8)

    def test_drawn_webs(self):
        dice = Dice(61)
        for k in range(120):
            self.pairs(drawn_web(dice, 1 + k % 8))

    def test_numbered_otherwise_the_same_is_told(self):
        for web in big_webs() + cover_webs() + [lane(4)] + small_webs(3, 4):
            for order in room_orders(web):
                self.assertEqual(pairer(renamed(web, order)), pairer(web))


if __name__ == "__main__":
    unittest.main()
