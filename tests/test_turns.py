import itertools
import unittest

from helper import (big_webs, changed, cube, is_told, lifts, other_kinds, room_orders, small_webs, strange_things)
from ringmeet.naming import renamed
from ringmeet.turns import is_turn, turned, turns
from ringmeet.webs import lane, ring


def is_fit(web, order):
    """The document's words, of an order of all rooms."""
    for room, doors in enumerate(web):
        if len(web[order[room]]) != len(doors):
            return False
        for door, (there, back) in enumerate(doors):
            if web[order[room]][door] != (order[there], back):
                return False
    return True


def all_turns(web):
    return tuple(order for order in itertools.permutations(range(len(web))) if is_fit(web, order))


class IsTurn(unittest.TestCase):
    def test_by_the_words_of_the_document(self):
        for web in small_webs(4, 6) + big_webs()[-5:]:
            for thing in itertools.product(range(-1, len(web) + 1), repeat=len(web)):
                order = sorted(thing) == list(range(len(web)))
                self.assertIs(is_turn(web, thing), order and is_fit(web, thing))

    def test_each_clause_by_itself(self):
        self.assertIs(is_turn(ring(3), (1, 2, 0)), True)
        self.assertIs(is_turn(ring(3), (1, 0, 2)), False)
        self.assertIs(is_turn(lane(2), (1, 0)), True)
        self.assertIs(is_turn(lane(3), (2, 1, 0)), False)
        loops_on_both_ends = (((0, 1), (0, 0), (1, 0)), ((0, 2), (1, 2), (1, 1)))
        self.assertIs(is_turn(loops_on_both_ends, (1, 0)), False)
        twice = (((1, 0), (1, 1)), ((0, 0), (0, 1)))
        self.assertIs(is_turn(twice, (1, 0)), True)
        self.assertIs(is_turn(twice, (0, 0)), False)
        self.assertIs(is_turn(ring(4), (0, 0, 0, 0)), False)
        # Two doors to like rooms that are come into by unlike doors.
        crossed = (((1, 1), (1, 0)), ((0, 1), (0, 0)))
        self.assertIs(is_turn(crossed, (1, 0)), True)
        by_other_doors = (((1, 0), (2, 0)), ((0, 0), (2, 1)), ((0, 1), (1, 1)))
        self.assertIs(is_turn(by_other_doors, (1, 0, 2)), False)

    def test_numbers_that_are_no_rooms(self):
        self.assertIs(is_turn(ring(3), (-2, -1, -3)), False)
        self.assertIs(is_turn(ring(3), (1, 2, 3)), False)
        self.assertIs(is_turn(ring(3), (1, 2, -3)), False)
        self.assertIs(is_turn(ring(3), (1, 2, 10 ** 30)), False)

    def test_one_more_or_one_fewer(self):
        for web in big_webs():
            rooms = tuple(range(len(web)))
            for thing in ((), rooms[:-1], rooms[1:], rooms + (0,), rooms + (len(web),)):
                self.assertIs(is_turn(web, thing), False)

    def test_other_kinds(self):
        for web, turn in ((ring(3), (1, 2, 0)), (ring(3), (0, 1, 2)), (lane(1), (0,)), (lane(2), (1, 0))):
            self.assertIs(is_turn(web, turn), True)
            for thing in changed(turn, other_kinds):
                self.assertIs(is_turn(web, thing), False)

    def test_things_of_all_kinds(self):
        for web in (lane(1), ring(2), ring(8)):
            for thing in strange_things():
                self.assertIs(is_turn(web, thing), False)


class Turns(unittest.TestCase):
    def test_written_out(self):
        self.assertEqual(turns(lane(1)), ((0,),))
        self.assertEqual(turns(lane(2)), ((0, 1), (1, 0)))
        self.assertEqual(turns(lane(5)), ((0, 1, 2, 3, 4),))
        self.assertEqual(turns(ring(4)), ((0, 1, 2, 3), (1, 2, 3, 0), (2, 3, 0, 1), (3, 0, 1, 2)))
        self.assertEqual(turns(cube()), tuple(tuple(room ^ k for room in range(8)) for k in range(8)))

    def test_all_of_them_rising(self):
        for web in small_webs(4, 6) + [ring(k) for k in range(1, 7)] + [lane(k) for k in range(1, 7)]:
            told = turns(web)
            self.assertTrue(is_told(told))
            self.assertEqual(told, all_turns(web))

    def test_of_big_webs(self):
        for web in big_webs() + [web for web, few in lifts()]:
            told = turns(web)
            self.assertEqual(told, all_turns(web))
            self.assertEqual(told[0], tuple(range(len(web))))
            self.assertEqual(list(told), sorted(set(told)))
            for turn in told:
                self.assertIs(is_turn(web, turn), True)

    def test_numbered_otherwise_the_same_turns(self):
        for web in small_webs(3, 6) + big_webs():
            told = turns(web)
            for order in room_orders(web):
                others = []
                for turn in told:
                    other = [0] * len(web)
                    for room in range(len(web)):
                        other[order[room]] = order[turn[room]]
                    others.append(tuple(other))
                self.assertEqual(turns(renamed(web, order)), tuple(sorted(others)))


class Turned(unittest.TestCase):
    def test_none_one_and_all(self):
        for web in big_webs() + [ring(8), lane(4)]:
            every = tuple(range(len(web)))
            for turn in turns(web):
                self.assertEqual(turned(turn, ()), ())
                self.assertEqual(turned(turn, every), every)
                for room in every:
                    self.assertEqual(turned(turn, (room,)), (turn[room],))

    def test_rising(self):
        self.assertEqual(turned((2, 3, 0, 1), (0, 2)), (0, 2))
        self.assertEqual(turned((1, 2, 3, 0), (0, 2, 3)), (0, 1, 3))
        self.assertEqual(turned((3, 0, 1, 2), (0, 1)), (0, 3))
        for turn in turns(ring(7)):
            for rooms in itertools.combinations(range(7), 3):
                told = turned(turn, rooms)
                self.assertTrue(is_told(told))
                self.assertEqual(told, tuple(sorted(turn[room] for room in rooms)))


if __name__ == "__main__":
    unittest.main()
