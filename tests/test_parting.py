import itertools
import unittest

from helper import (big_webs, by_order, changed, is_told, lifts, other_kinds, room_orders, signs_for, small_webs,
                    strange_things)
from ringmeet.colours import colouring, seen
from ringmeet.naming import renamed
from ringmeet.parting import parted, shows_parted
from ringmeet.webs import lane, ring


def first_parting(web, signs, one, other, longest):
    """By all walks, the short ones first, of one length in order."""
    for many in range(longest + 1):
        for walk in itertools.product(range(4), repeat=many):
            if seen(web, signs, one, walk) != seen(web, signs, other, walk):
                return walk
    return None


def pairs_of(web):
    return itertools.product(range(len(web)), repeat=2)


class Parted(unittest.TestCase):
    def test_written_out(self):
        self.assertEqual(parted(lane(3), (0, 0, 0), 0, 1), ())
        self.assertEqual(parted(lane(3), (0, 0, 0), 0, 2), (0,))
        self.assertEqual(parted(lane(5), (0,) * 5, 1, 3), (0,))
        self.assertEqual(parted(lane(8), (0,) * 8, 3, 4), (0, 0, 0))
        self.assertEqual(parted(lane(8), (0,) * 8, 4, 5), (1, 1))
        self.assertEqual(parted(ring(6), (1, 0, 0, 0, 0, 0), 2, 3), (1, 1))
        self.assertEqual(parted(ring(6), (1, 0, 0, 0, 0, 0), 3, 4), (0, 0))
        self.assertEqual(parted(ring(6), (1, 0, 0, 0, 0, 0), 0, 4), ())

    def test_none_of_rooms_of_one_colour_and_of_a_room_and_itself(self):
        self.assertIsNone(parted(ring(8), (0,) * 8, 0, 5))
        self.assertIsNone(parted(ring(6), (0, 1) * 3, 1, 5))
        self.assertIsNone(parted(lane(1), (0,), 0, 0))
        for web in big_webs():
            for signs in signs_for(web):
                for room in range(len(web)):
                    self.assertIsNone(parted(web, signs, room, room))

    def test_doors_that_only_one_of_both_rooms_has(self):
        web = (((1, 0), (0, 2), (0, 1)), ((0, 0), (2, 0)), ((1, 1), (2, 2), (2, 1)))
        self.assertEqual(parted(web, (0, 0, 0), 0, 1), ())
        self.assertEqual(parted(web, (0, 0, 0), 0, 2), (0,))
        self.assertEqual(parted(web, (0, 0, 0), 1, 2), ())

    def test_parted_by_the_door_come_in_by_alone(self):
        web = (((1, 0), (1, 1)), ((0, 0), (0, 1)))
        self.assertIsNone(parted(web, (0, 0), 0, 1))
        web = (((1, 0), (2, 0)), ((0, 0), (2, 1)), ((0, 1), (1, 1)))
        self.assertEqual(parted(web, (0, 0, 0), 0, 1), (1,))
        self.assertEqual(parted(web, (0, 0, 0), 0, 2), (0,))
        self.assertEqual(parted(web, (0, 0, 0), 1, 2), (0,))

    def test_the_least_of_the_shortest(self):
        for web in small_webs(4, 6) + big_webs()[-5:]:
            for signs in signs_for(web):
                for one, other in pairs_of(web):
                    told = parted(web, signs, one, other)
                    self.assertTrue(is_told(told))
                    self.assertEqual(told, first_parting(web, signs, one, other, len(web)))

    def test_the_least_of_the_shortest_in_long_lanes_and_rings(self):
        for web in (lane(7), lane(8), ring(7), ring(8)):
            for signs in itertools.islice(signs_for(web), 4):
                for one, other in pairs_of(web):
                    self.assertEqual(parted(web, signs, one, other), first_parting(web, signs, one, other, 5))

    def test_parted_just_where_colours_are_unlike(self):
        for web in big_webs() + [web for web, few in lifts()]:
            for signs in signs_for(web):
                colours = colouring(web, signs)
                for one, other in pairs_of(web):
                    walk = parted(web, signs, one, other)
                    self.assertEqual(walk is None, colours[one] == colours[other])
                    self.assertEqual(walk, parted(web, signs, other, one))
                    if walk is not None:
                        self.assertNotEqual(seen(web, signs, one, walk), seen(web, signs, other, walk))

    def test_numbered_otherwise_the_same_walk(self):
        for web in small_webs(3, 6) + big_webs()[-4:]:
            for signs in signs_for(web):
                for order in room_orders(web):
                    other_web, other_signs = renamed(web, order), by_order(order, signs)
                    for one, other in pairs_of(web):
                        self.assertEqual(parted(other_web, other_signs, order[one], order[other]),
                                         parted(web, signs, one, other))


class ShowsParted(unittest.TestCase):
    def test_the_told_walk_and_none_of_its_beginnings(self):
        for web in small_webs(3, 6) + big_webs() + [lane(8), ring(8)]:
            for signs in signs_for(web):
                for one, other in pairs_of(web):
                    walk = parted(web, signs, one, other)
                    if walk is None:
                        self.assertIs(shows_parted(web, signs, one, other, (0, 1, 0, 1)), False)
                        continue
                    self.assertIs(shows_parted(web, signs, one, other, walk), True)
                    for k in range(len(walk)):
                        self.assertIs(shows_parted(web, signs, one, other, walk[:k]), False)

    def test_all_short_walks(self):
        for web in small_webs(3, 4):
            signs = (0,) * len(web)
            for one, other in pairs_of(web):
                for walk in itertools.product((0, 1, 3), repeat=3):
                    unlike = seen(web, signs, one, walk) != seen(web, signs, other, walk)
                    self.assertIs(shows_parted(web, signs, one, other, walk), unlike)

    def test_walks_with_doors_that_are_not_there(self):
        signs = (1, 0, 0, 0, 0, 0)
        for door in (2, 4, 9, 10 ** 30):
            self.assertIs(shows_parted(ring(6), signs, 2, 3, (1, 1, door)), True)
            self.assertIs(shows_parted(ring(6), signs, 2, 3, (1, 1, door, 0, 0)), True)
            self.assertIs(shows_parted(ring(6), signs, 2, 3, (1, door, 1)), False)
            self.assertIs(shows_parted(ring(6), signs, 2, 3, (door, 1, 1)), False)
            self.assertIs(shows_parted(lane(3), (0,) * 3, 0, 1, (door,)), True)
            self.assertIs(shows_parted(lane(3), (0,) * 3, 0, 2, (door,)), False)

    def test_a_longer_walk(self):
        self.assertIs(shows_parted(ring(6), (1, 0, 0, 0, 0, 0), 2, 3, (1,) * 3000), True)
        self.assertIs(shows_parted(ring(6), (0,) * 6, 2, 3, (1,) * 3000), False)

    def test_numbers_below_nought(self):
        signs = (1, 0, 0, 0, 0, 0)
        for number in (-1, -2, -3, -(10 ** 30)):
            for walk in ((1, 1, number), (number, 1, 1), (number,), (1, number, 1)):
                self.assertIs(shows_parted(ring(6), signs, 2, 3, walk), False)
                self.assertIs(shows_parted(ring(6), signs, 0, 3, walk), False)

    def test_other_kinds(self):
        for thing in changed((1, 1, 0), other_kinds):
            self.assertIs(shows_parted(ring(6), (1, 0, 0, 0, 0, 0), 2, 3, thing), False)
            self.assertIs(shows_parted(ring(6), (1, 0, 0, 0, 0, 0), 0, 3, thing), False)
        self.assertIs(shows_parted(lane(3), (0,) * 3, 0, 1, []), False)

    def test_things_of_all_kinds(self):
        walks = [(0,) * 1000, tuple(range(50))]
        for thing in strange_things():
            is_walk = any(isinstance(thing, tuple) and len(thing) == len(walk) and thing == walk for walk in walks)
            self.assertIs(shows_parted(lane(3), (0,) * 3, 0, 1, thing), is_walk)
            self.assertIs(shows_parted(ring(3), (0,) * 3, 0, 1, thing), False)


if __name__ == "__main__":
    unittest.main()
