import itertools
import unittest

from helper import big_webs, is_told, room_orders, small_webs
from ringmeet.naming import redoored, renamed
from ringmeet.webs import is_web, lane, ring


def turned_back(order):
    return tuple(order.index(k) for k in range(len(order)))


def door_orders(web):
    """Some door orders for each room: all of the small webs, the turned and shifted ones of the big ones."""
    rooms = [list(itertools.permutations(range(len(doors)))) for doors in web]
    if len(web) <= 3:
        yield from itertools.product(*rooms)
    else:
        for k in range(5):
            yield tuple(orders[(k * (room + 3)) % len(orders)] for room, orders in enumerate(rooms))


class Renamed(unittest.TestCase):
    def test_written_out(self):
        self.assertEqual(renamed(lane(1), (0,)), lane(1))
        self.assertEqual(renamed(lane(3), (1, 2, 0)), (((2, 1),), ((2, 0),), ((1, 0), (0, 0))))
        self.assertEqual(renamed(ring(3), (1, 2, 0)), ring(3))
        self.assertEqual(renamed(ring(3), (0, 2, 1)), (((2, 1), (1, 0)), ((0, 1), (2, 0)), ((1, 1), (0, 0))))

    def test_room_by_room(self):
        for web in small_webs(4, 6) + big_webs():
            for order in room_orders(web):
                told = renamed(web, order)
                self.assertTrue(is_told(told))
                self.assertIs(is_web(told), True)
                for room, doors in enumerate(web):
                    self.assertEqual(len(told[order[room]]), len(doors))
                    for door, (there, back) in enumerate(doors):
                        self.assertEqual(told[order[room]][door], (order[there], back))

    def test_there_again_by_the_order_turned_back(self):
        for web in small_webs(4, 6) + big_webs():
            for order in room_orders(web):
                self.assertEqual(renamed(renamed(web, order), turned_back(order)), web)

    def test_by_the_order_that_leaves_all(self):
        for web in big_webs():
            self.assertEqual(renamed(web, tuple(range(len(web)))), web)


class Redoored(unittest.TestCase):
    def test_written_out(self):
        self.assertEqual(redoored(lane(1), ((),)), lane(1))
        self.assertEqual(redoored(lane(3), ((0,), (1, 0), (0,))), (((1, 1),), ((2, 0), (0, 0)), ((1, 0),)))
        self.assertEqual(redoored(ring(1), ((1, 0),)), ring(1))
        self.assertEqual(redoored((((0, 1), (0, 0), (1, 0)), ((0, 2),)), ((1, 2, 0), (0,))),
                         (((1, 0), (0, 2), (0, 1)), ((0, 0),)))

    def test_door_by_door(self):
        for web in small_webs(3, 6) + big_webs():
            for orders in door_orders(web):
                told = redoored(web, orders)
                self.assertTrue(is_told(told))
                self.assertIs(is_web(told), True)
                for room, doors in enumerate(web):
                    self.assertEqual(len(told[room]), len(doors))
                    for door, (there, back) in enumerate(doors):
                        self.assertEqual(told[room][orders[room][door]], (there, orders[there][back]))

    def test_there_again_by_the_orders_turned_back(self):
        for web in small_webs(3, 6) + big_webs():
            for orders in door_orders(web):
                back = tuple(turned_back(order) for order in orders)
                self.assertEqual(redoored(redoored(web, orders), back), web)


if __name__ == "__main__":
    unittest.main()
