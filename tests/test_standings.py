import itertools
import unittest

from helper import (big_webs, by_order, changed, is_told, lifts, other_kinds, room_orders, sets_of, small_webs,
                    strange_things)
from ringmeet.naming import renamed
from ringmeet.standings import all_signs, chalk_signs, is_standing, standings
from ringmeet.turns import turned, turns
from ringmeet.webs import lane, ring


class IsStanding(unittest.TestCase):
    def test_all_of_small_webs(self):
        for many in range(1, 5):
            for rooms in sets_of(many):
                for chalk in sets_of(many):
                    self.assertIs(is_standing(ring(many), (rooms, chalk)), rooms != ())

    def test_all_rooms_of_a_big_web(self):
        every = tuple(range(8))
        self.assertIs(is_standing(ring(8), (every, every)), True)
        self.assertIs(is_standing(ring(8), (every, ())), True)
        self.assertIs(is_standing(ring(8), ((7,), (0, 7))), True)
        self.assertIs(is_standing(ring(7), (every, ())), False)

    def test_no_walker(self):
        self.assertIs(is_standing(ring(4), ((), ())), False)
        self.assertIs(is_standing(ring(4), ((), (0, 1))), False)

    def test_rooms_that_are_not_there(self):
        for number in (-1, 4, 5, -(10 ** 30), 10 ** 30):
            rooms = tuple(sorted((1, number)))
            self.assertIs(is_standing(ring(4), (rooms, ())), False)
            self.assertIs(is_standing(ring(4), ((number,), ())), False)
            self.assertIs(is_standing(ring(4), ((0,), rooms)), False)
            self.assertIs(is_standing(ring(4), ((0,), (number,))), False)

    def test_rooms_that_do_not_rise(self):
        for rooms in ((1, 0), (0, 0), (0, 2, 1), (0, 1, 1), (1, 2, 3, 0)):
            self.assertIs(is_standing(ring(4), (rooms, ())), False)
            self.assertIs(is_standing(ring(4), ((0,), rooms)), False)

    def test_other_than_two_parts(self):
        for thing in ((), ((0,),), ((0,), (), ()), ((0,), (), None), (0, 1), ((0,), 1), (0, ())):
            self.assertIs(is_standing(ring(4), thing), False)

    def test_other_kinds(self):
        for standing in (((0, 1), (1, 3)), ((0,), ()), ((1,), (0,))):
            self.assertIs(is_standing(ring(4), standing), True)
            for thing in changed(standing, other_kinds):
                self.assertIs(is_standing(ring(4), thing), False)

    def test_things_of_all_kinds(self):
        for web in (lane(1), ring(2), ring(8)):
            for thing in strange_things():
                self.assertIs(is_standing(web, thing), False)


class Signs(unittest.TestCase):
    def test_chalk_signs(self):
        self.assertEqual(chalk_signs(ring(4), ()), (0, 0, 0, 0))
        self.assertEqual(chalk_signs(ring(4), (0, 3)), (1, 0, 0, 1))
        self.assertEqual(chalk_signs(lane(1), (0,)), (1,))
        self.assertEqual(chalk_signs(lane(8), tuple(range(8))), (1,) * 8)

    def test_all_signs(self):
        self.assertEqual(all_signs(ring(4), ((0, 1), (1, 2))), (2, 3, 1, 0))
        self.assertEqual(all_signs(lane(1), ((0,), ())), (2,))
        self.assertEqual(all_signs(lane(1), ((0,), (0,))), (3,))

    def test_signs_of_all_standings(self):
        for rooms in sets_of(4)[1:]:
            for chalk in sets_of(4):
                signs = chalk_signs(ring(4), chalk)
                both = all_signs(ring(4), (rooms, chalk))
                self.assertTrue(is_told(signs) and is_told(both))
                self.assertEqual(signs, tuple(int(room in chalk) for room in range(4)))
                self.assertEqual(both, tuple((room in chalk) + 2 * (room in rooms) for room in range(4)))

    def test_numbered_otherwise_the_same_signs(self):
        for order in room_orders(lane(4)):
            web = renamed(lane(4), order)
            rooms, chalk = (0, 2), (1, 2)
            other = (turned(order, rooms), turned(order, chalk))
            self.assertEqual(all_signs(web, other), by_order(order, all_signs(lane(4), (rooms, chalk))))


class Standings(unittest.TestCase):
    def test_written_out(self):
        self.assertEqual(standings(lane(1), 1), ((0,),))
        self.assertEqual(standings(lane(2), 1), ((0,),))
        self.assertEqual(standings(lane(3), 2), ((0, 1), (0, 2), (1, 2)))
        self.assertEqual(standings(ring(4), 1), ((0,),))
        self.assertEqual(standings(ring(4), 2), ((0, 1), (0, 2)))
        self.assertEqual(standings(ring(6), 3), ((0, 1, 2), (0, 1, 3), (0, 1, 4), (0, 2, 4)))
        self.assertEqual(standings(ring(4), 4), ((0, 1, 2, 3),))

    def test_each_set_of_rooms_is_turned_to_just_one(self):
        webs = small_webs(4, 6) + big_webs() + [web for web, few in lifts()]
        for web in webs + [ring(k) for k in range(1, 9)] + [lane(k) for k in range(1, 9)]:
            orders = turns(web)
            for many in range(1, len(web) + 1):
                told = standings(web, many)
                self.assertTrue(is_told(told))
                self.assertEqual(list(told), sorted(set(told)))
                for rooms in told:
                    self.assertIs(is_standing(web, (rooms, ())), True)
                    self.assertEqual(len(rooms), many)
                    self.assertEqual(min(turned(order, rooms) for order in orders), rooms)
                for rooms in itertools.combinations(range(len(web)), many):
                    self.assertEqual(len(set(told) & {turned(order, rooms) for order in orders}), 1)

    def test_numbered_otherwise_as_many(self):
        for web in small_webs(3, 6) + big_webs():
            for many in range(1, len(web) + 1):
                for order in room_orders(web):
                    self.assertEqual(len(standings(renamed(web, order), many)), len(standings(web, many)))


if __name__ == "__main__":
    unittest.main()
