import copy
import unittest

from helper import (all_pairings, big_webs, changed, hangs_together, is_told, other_kinds, small_webs, strange_things)
from ringmeet.webs import is_web, lane, ring


class IsWeb(unittest.TestCase):
    def holds(self, thing):
        self.assertIs(is_web(thing), True, thing)

    def fails(self, thing):
        self.assertIs(is_web(thing), False)

    def test_webs_written_out(self):
        self.holds(((),))
        self.holds((((0, 1), (0, 0)),))
        self.holds((((1, 0),), ((0, 0),)))
        self.holds((((0, 1), (0, 0), (0, 3), (0, 2)),))
        self.holds((((1, 0), (1, 2), (1, 1)), ((0, 0), (0, 2), (0, 1))))
        self.holds((((1, 0), (0, 2), (0, 1)), ((0, 0),)))

    def test_webs_up_to_the_bounds(self):
        for web in big_webs():
            self.holds(web)

    def test_rooms_with_paired_doors_are_webs_just_where_they_hang_together(self):
        told = [is_web(rooms) for rooms in all_pairings(4, 6)]
        self.assertEqual(told, [hangs_together(rooms) for rooms in all_pairings(4, 6)])
        self.assertIn(True, told)
        self.assertIn(False, told)

    def test_a_door_that_leads_to_itself(self):
        self.fails((((0, 0),),))
        self.fails((((1, 0), (0, 1)), ((0, 0),)))
        self.fails((((1, 0),), ((0, 0), (1, 1))))

    def test_a_door_whose_back_door_leads_elsewhere(self):
        self.fails((((1, 0),), ((0, 0), (0, 0))))
        self.fails((((0, 1), (0, 2), (0, 0)),))
        self.fails((((1, 0), (1, 0)), ((0, 1), (0, 0))))
        self.fails((((1, 0),), ((2, 0),), ((0, 0),)))

    def test_rooms_that_cannot_be_come_to(self):
        self.fails(((), ()))
        self.fails((((0, 1), (0, 0)), ((1, 1), (1, 0))))
        self.fails((((1, 0),), ((0, 0),), ()))
        self.fails((((1, 0),), ((0, 0),), ((3, 0),), ((2, 0),)))
        self.fails(((), ((2, 0),), ((1, 0),)))

    def test_rooms_and_doors_that_are_not_there(self):
        for number in (-1, -2, 2, 3, 8, 4000, 10 ** 30, -(10 ** 30)):
            self.fails((((number, 0),), ((0, 0),)))
            self.fails((((1, number),), ((0, 0),)))
        self.fails((((-1, -1),), ((-2, -1),)))
        self.fails((((1, 1),), ((0, 0),)))
        self.fails((((-1, 0),), ((0, 0),)))

    def test_one_door_otherwise_is_no_web(self):
        for web in small_webs(3, 4):
            for room, doors in enumerate(web):
                for door in range(len(doors)):
                    for there in range(-1, 4):
                        for back in range(-1, 4):
                            if (there, back) != doors[door]:
                                other = doors[:door] + ((there, back),) + doors[door + 1:]
                                self.fails(web[:room] + (other,) + web[room + 1:])

    def test_how_many_rooms_and_doors(self):
        self.fails(())
        for many in range(1, 9):
            self.holds(ring(many))
            self.holds(lane(many))
        self.fails(ring(9))
        self.fails(lane(9))
        self.fails(ring(200))
        self.fails((((1, 0), (1, 1), (1, 2), (1, 3), (1, 4)), ((0, 0), (0, 1), (0, 2), (0, 3), (0, 4))))
        self.fails((((0, 1), (0, 0), (0, 3), (0, 2), (0, 5), (0, 4)),))

    def test_doors_with_other_than_two_parts(self):
        self.fails((((1,),), ((0,),)))
        self.fails((((1, 0, 0),), ((0, 0, 0),)))
        self.fails((((1, 0),), ((0, 0, 0),)))
        self.fails((((1, 0),), ((0,),)))
        self.fails((((),), ((),)))

    def test_other_kinds_at_every_depth(self):
        for web in [ring(1), ring(2), lane(3), ((),)] + big_webs():
            for thing in changed(web, other_kinds):
                self.fails(thing)

    def test_things_of_all_kinds(self):
        for thing in strange_things():
            self.fails(thing)

    def test_what_is_handed_in_stays(self):
        things = [[[[0, 1], [0, 0]]], ([[0, 1]],), {0: [1]}, [ring(3)]]
        before = copy.deepcopy(things)
        for thing in things:
            self.fails(thing)
        self.assertEqual(things, before)


class RingAndLane(unittest.TestCase):
    def test_smallest_rings(self):
        self.assertEqual(ring(1), (((0, 1), (0, 0)),))
        self.assertEqual(ring(2), (((1, 1), (1, 0)), ((0, 1), (0, 0))))
        self.assertEqual(ring(3), (((1, 1), (2, 0)), ((2, 1), (0, 0)), ((0, 1), (1, 0))))

    def test_rings_door_by_door(self):
        for many in range(1, 9):
            web = ring(many)
            self.assertTrue(is_told(web))
            self.assertEqual([len(doors) for doors in web], [2] * many)
            for room in range(many):
                following = 0 if room == many - 1 else room + 1
                self.assertEqual(web[room][0], (following, 1))
                self.assertEqual(web[following][1], (room, 0))
            self.assertIs(is_web(web), True)

    def test_smallest_lanes(self):
        self.assertEqual(lane(1), ((),))
        self.assertEqual(lane(2), (((1, 0),), ((0, 0),)))
        self.assertEqual(lane(3), (((1, 0),), ((0, 0), (2, 0)), ((1, 1),)))
        self.assertEqual(lane(4), (((1, 0),), ((0, 0), (2, 0)), ((1, 1), (3, 0)), ((2, 1),)))

    def test_lanes_door_by_door(self):
        for many in range(2, 9):
            web = lane(many)
            self.assertTrue(is_told(web))
            self.assertEqual([len(doors) for doors in web], [1] + [2] * (many - 2) + [1])
            for room in range(many - 1):
                self.assertEqual(web[room][-1], (room + 1, 0))
                self.assertEqual(web[room + 1][0], (room, len(web[room]) - 1))
            self.assertIs(is_web(web), True)


if __name__ == "__main__":
    unittest.main()
