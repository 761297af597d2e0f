import itertools
import unittest

from helper import big_webs, is_told, small_webs
from ringmeet.walks import led, way_back, ways
from ringmeet.webs import lane, ring


def walked(web, room, walk):
    """The rooms come to and the doors come by, step by step; None where a door isn't there."""
    rooms, backs = [room], []
    for door in walk:
        if door not in range(len(web[rooms[-1]])):
            return None
        there, back = web[rooms[-1]][door]
        rooms.append(there)
        backs.append(back)
    return rooms, backs


def all_walks(longest, doors):
    for many in range(longest + 1):
        yield from itertools.product(doors, repeat=many)


class Led(unittest.TestCase):
    def test_no_walk(self):
        for web in [lane(1), ring(1), lane(8)]:
            for room in range(len(web)):
                self.assertEqual(led(web, room, ()), room)

    def test_walks_written_out(self):
        self.assertEqual(led(ring(5), 2, (0, 0)), 4)
        self.assertEqual(led(ring(5), 2, (1, 1, 1)), 4)
        self.assertEqual(led(lane(4), 0, (0, 1, 1)), 3)
        self.assertEqual(led(lane(4), 3, (0, 0, 0)), 0)
        self.assertEqual(led(ring(1), 0, (0, 1, 0, 0)), 0)

    def test_all_short_walks(self):
        for web in small_webs(3, 6):
            for room in range(len(web)):
                for walk in all_walks(3, (-1, 0, 1, 2, 4)):
                    way = walked(web, room, walk)
                    self.assertEqual(led(web, room, walk), way and way[0][-1])

    def test_a_long_walk(self):
        self.assertEqual(led(ring(7), 3, (0,) * 10000), (3 + 10000) % 7)
        self.assertEqual(led(lane(8), 0, (0,) + (1, 0) * 3000), 1)

    def test_a_door_that_is_not_there_at_any_place(self):
        walk = (0, 1, 1, 0, 0, 0, 1)
        for door in (-1, -2, 2, 3, 4, 4000, -4000):
            for at in range(len(walk) + 1):
                self.assertIsNone(led(ring(4), 1, walk[:at] + (door,) + walk[at:]))
        self.assertIsNone(led(lane(1), 0, (0,)))
        self.assertIsNone(led(lane(2), 0, (0, 1)))
        self.assertIsNone(led(lane(3), 0, (-1,)))


class WayBack(unittest.TestCase):
    def test_ways_back_written_out(self):
        self.assertEqual(way_back(ring(5), 2, ()), ())
        self.assertEqual(way_back(ring(5), 2, (0, 0, 1)), (0, 1, 1))
        self.assertEqual(way_back(lane(4), 0, (0, 1, 1)), (0, 0, 0))
        self.assertEqual(way_back(lane(4), 3, (0, 0, 0)), (0, 1, 1))
        self.assertEqual(way_back(ring(1), 0, (0, 0, 1)), (0, 1, 1))

    def test_back_to_where_one_began_and_back_again(self):
        for web in small_webs(3, 6) + big_webs():
            for room in range(len(web)):
                for walk in all_walks(3, range(4)):
                    way = walked(web, room, walk)
                    if way is None:
                        continue
                    back = way_back(web, room, walk)
                    end = led(web, room, walk)
                    self.assertEqual(back, tuple(reversed(way[1])))
                    self.assertTrue(is_told(back))
                    self.assertEqual(led(web, end, back), room)
                    self.assertEqual(way_back(web, end, back), walk)
                    self.assertEqual(walked(web, end, back)[0], way[0][::-1])

    def test_a_long_way_back(self):
        self.assertEqual(way_back(ring(7), 3, (0,) * 3000 + (1,)), (0,) + (1,) * 3000)


class Ways(unittest.TestCase):
    def least(self, web, room, goal):
        """By all walks, the short ones first, of one length in order."""
        for walk in all_walks(len(web), range(4)):
            if led(web, room, walk) == goal:
                return walk

    def test_ways_written_out(self):
        self.assertEqual(ways(lane(1), 0), ((),))
        self.assertEqual(ways(ring(4), 0), ((), (0,), (0, 0), (1,)))
        self.assertEqual(ways(ring(5), 3), ((0, 0), (1, 1), (1,), (), (0,)))
        self.assertEqual(ways(lane(4), 2), ((0, 0), (0,), (), (1,)))
        self.assertEqual(ways((((1, 0), (1, 1)), ((0, 0), (0, 1))), 0), ((), (0,)))

    def test_least_of_the_shortest(self):
        for web in small_webs(4, 6) + big_webs()[-6:]:
            for room in range(len(web)):
                told = ways(web, room)
                self.assertTrue(is_told(told))
                self.assertEqual(told, tuple(self.least(web, room, goal) for goal in range(len(web))))

    def test_least_of_the_shortest_in_big_webs(self):
        for web in big_webs()[:6]:
            self.assertEqual(ways(web, 1), tuple(self.least(web, 1, goal) for goal in range(len(web))))

    def test_its_own_room_is_come_to_by_no_door(self):
        for web in big_webs():
            for room in range(len(web)):
                self.assertEqual(ways(web, room)[room], ())


if __name__ == "__main__":
    unittest.main()
