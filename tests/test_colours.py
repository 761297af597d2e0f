import itertools
import unittest

from helper import (big_webs, by_order, changed, is_told, lifts, other_kinds, room_orders, signs_for, small_webs,
                    strange_things)
from ringmeet.colours import all_unlike, colouring, is_colouring, seen
from ringmeet.naming import renamed
from ringmeet.webs import is_web, lane, ring


def is_fit(web, signs, numbers):
    """The document's words, pair of rooms by pair of rooms."""
    for one, other in itertools.combinations(range(len(web)), 2):
        if numbers[one] == numbers[other]:
            if len(web[one]) != len(web[other]) or signs[one] != signs[other]:
                return False
            for (there, back), (far, by) in zip(web[one], web[other]):
                if numbers[there] != numbers[far] or back != by:
                    return False
    return True


def all_partings(many):
    """All ways to give numbers to rooms, numbered from 0 as they come first."""
    found = [()]
    for _ in range(many):
        found = [numbers + (k,) for numbers in found for k in range(max(numbers, default=-1) + 2)]
    return found


def never_parted(web, signs, one, other):
    """Whether no walk parts two rooms: by all pairs of rooms that both can come to by the same doors."""
    pairs = [((one, 0), (other, 0))]
    for (here, came), (there, by) in pairs:
        if (came, len(web[here]), signs[here]) != (by, len(web[there]), signs[there]):
            return False
        for pair in zip(web[here], web[there]):
            if pair not in pairs:
                pairs.append(pair)
    return True


def many_webs():
    return small_webs(3, 6) + big_webs() + [web for web, few in lifts()] + [ring(k) for k in range(1, 9)] + [
        lane(k) for k in range(1, 9)]


class Seen(unittest.TestCase):
    def test_no_walk(self):
        self.assertEqual(seen(lane(1), (5,), 0, ()), ((0, 0, 5),))
        self.assertEqual(seen(ring(3), (5, 6, 7), 2, ()), ((0, 2, 7),))
        self.assertEqual(seen(lane(3), (5, 6, 7), 2, ()), ((0, 1, 7),))

    def test_along_walks(self):
        self.assertEqual(seen(lane(3), (5, 6, 7), 0, (0, 1, 0)), ((0, 1, 5), (1, 2, 6), (1, 1, 7), (2, 2, 6)))
        self.assertEqual(seen(ring(3), (5, 6, 7), 2, (0, 0, 1)), ((0, 2, 7), (2, 2, 5), (2, 2, 6), (1, 2, 5)))
        self.assertEqual(seen(ring(1), (0,), 0, (0, 1)), ((0, 2, 0), (2, 2, 0), (1, 2, 0)))

    def test_signs_that_are_great_or_below_nought(self):
        self.assertEqual(seen(lane(2), (-(10 ** 50), 10 ** 50), 0, (0,)), ((0, 1, -(10 ** 50)), (1, 1, 10 ** 50)))

    def test_it_ends_ahead_of_a_door_that_is_not_there(self):
        signs = (3, 1, 4, 1)
        walk = (0, 1, 0, 0, 1, 1)
        whole = seen(ring(4), signs, 1, walk)
        self.assertEqual(len(whole), 7)
        for door in (-1, -2, 2, 3, 4000, 10 ** 20):
            for at in range(len(walk) + 1):
                self.assertEqual(seen(ring(4), signs, 1, walk[:at] + (door,) + walk[at:]), whole[:at + 1])
        self.assertEqual(seen(lane(1), (0,), 0, (0, 0)), ((0, 0, 0),))
        self.assertEqual(seen(lane(3), (0, 0, 0), 0, (0, -1, 0)), ((0, 1, 0), (1, 2, 0)))

    def test_a_long_walk(self):
        told = seen(ring(5), (0, 1, 2, 3, 4), 0, (0,) * 3000)
        self.assertEqual(told, ((0, 2, 0),) + tuple((2, 2, k % 5) for k in range(1, 3001)))
        self.assertTrue(is_told(told))

    def test_numbered_otherwise_the_same_is_seen(self):
        for web in big_webs():
            signs = tuple(range(len(web)))
            for order in room_orders(web):
                for room in range(len(web)):
                    self.assertEqual(seen(renamed(web, order), by_order(order, signs), order[room], (0, 1, 2, 1)),
                                     seen(web, signs, room, (0, 1, 2, 1)))


class Colouring(unittest.TestCase):
    def test_written_out(self):
        self.assertEqual(colouring(lane(1), (4,)), (0,))
        self.assertEqual(colouring(ring(5), (0,) * 5), (0,) * 5)
        self.assertEqual(colouring(ring(5), (0, 0, 1, 0, 0)), (0, 1, 2, 3, 4))
        self.assertEqual(colouring(ring(6), (1, 0, 0, 1, 0, 0)), (0, 1, 2, 0, 1, 2))
        self.assertEqual(colouring(ring(4), (9, -9, 9, -9)), (0, 1, 0, 1))
        self.assertEqual(colouring(lane(2), (0, 0)), (0, 0))
        self.assertEqual(colouring(lane(2), (1, 0)), (0, 1))
        self.assertEqual(colouring(lane(3), (0, 0, 0)), (0, 1, 2))
        self.assertEqual(colouring(lane(8), (0,) * 8), (0, 1, 2, 3, 4, 5, 6, 7))

    def test_rooms_alike_but_for_the_door_come_in_by(self):
        web = (((1, 0), (2, 0)), ((0, 0),), ((0, 1),))
        self.assertEqual(colouring(web, (0, 0, 0)), (0, 1, 2))

    def test_webs_laid_over_smaller_ones(self):
        for web, few in lifts():
            self.assertIs(is_web(web), True)
            told = colouring(web, (0,) * len(web))
            self.assertEqual(told[:few] * (len(web) // few), told)
            self.assertEqual(len(set(told)), few)
            marked = colouring(web, (1,) + (0,) * (len(web) - 1))
            self.assertEqual(marked, tuple(range(len(web))))

    def test_the_one_with_the_fewest_numbers(self):
        for web in small_webs(4, 6):
            for signs in signs_for(web):
                fits = [numbers for numbers in all_partings(len(web)) if is_fit(web, signs, numbers)]
                told = colouring(web, signs)
                self.assertTrue(is_told(told))
                self.assertIn(told, fits)
                for numbers in fits:
                    for one, other in itertools.combinations(range(len(web)), 2):
                        self.assertTrue(numbers[one] != numbers[other] or told[one] == told[other])

    def test_one_colour_just_where_no_walk_parts(self):
        for web in many_webs():
            for signs in signs_for(web):
                told = colouring(web, signs)
                for one in range(len(web)):
                    for other in range(len(web)):
                        self.assertEqual(told[one] == told[other], never_parted(web, signs, one, other))

    def test_numbered_as_the_colours_come_first(self):
        for web in many_webs():
            for signs in signs_for(web):
                told = colouring(web, signs)
                self.assertEqual(list(dict.fromkeys(told)), list(range(len(set(told)))))

    def test_numbered_otherwise_the_same_rooms_are_of_one_colour(self):
        for web in small_webs(3, 6) + big_webs():
            for signs in signs_for(web):
                told = colouring(web, signs)
                for order in room_orders(web):
                    other = colouring(renamed(web, order), by_order(order, signs))
                    pairs = {(told[room], other[order[room]]) for room in range(len(web))}
                    self.assertEqual(len(pairs), len(set(told)))
                    self.assertEqual(len(pairs), len(set(other)))


class IsColouring(unittest.TestCase):
    def test_by_the_words_of_the_document(self):
        for web in small_webs(3, 6):
            for signs in signs_for(web):
                for numbers in itertools.product((-1, 0, 5), repeat=len(web)):
                    self.assertIs(is_colouring(web, signs, numbers), is_fit(web, signs, numbers))

    def test_the_told_one_and_finer_ones(self):
        for web in many_webs():
            for signs in signs_for(web):
                told = colouring(web, signs)
                self.assertIs(is_colouring(web, signs, told), True)
                self.assertIs(is_colouring(web, signs, tuple(10 ** 30 - 7 * k for k in told)), True)
                self.assertIs(is_colouring(web, signs, tuple(range(len(web)))), True)
                self.assertIs(is_colouring(web, signs, tuple(-3 * k for k in range(len(web)))), True)
        self.assertIs(is_colouring(ring(8), (0,) * 8, (4, 2, 4, 2, 4, 2, 4, 2)), True)
        self.assertIs(is_colouring(ring(8), (0,) * 8, (4, 2, 1, 0, 4, 2, 1, 0)), True)
        self.assertIs(is_colouring(ring(8), (0, 1) * 4, (4, 2, 4, 2, 4, 2, 4, 2)), True)

    def test_one_number_otherwise(self):
        for signs in ((0,) * 8, (0, 1) * 4):
            for numbers in ((0, 1) * 4, (0, 1, 2, 3) * 2):
                for room in range(8):
                    for number in (-1, 0, 1, 2, 3, 4, 100):
                        thing = numbers[:room] + (number,) + numbers[room + 1:]
                        self.assertIs(is_colouring(ring(8), signs, thing), thing == numbers)

    def test_each_clause_by_itself(self):
        self.assertIs(is_colouring(lane(2), (0, 1), (0, 0)), False)
        self.assertIs(is_colouring(lane(2), (0, 0), (0, 0)), True)
        self.assertIs(is_colouring(lane(3), (0, 0, 0), (0, 0, 0)), False)
        by_other_doors = (((1, 0), (2, 0)), ((0, 0),), ((0, 1),))
        self.assertIs(is_colouring(by_other_doors, (0, 0, 0), (0, 1, 1)), False)
        to_other_rooms = lane(4)
        self.assertIs(is_colouring(to_other_rooms, (0,) * 4, (0, 1, 1, 2)), False)
        self.assertIs(is_colouring(to_other_rooms, (0,) * 4, (0, 1, 2, 0)), False)

    def test_one_more_or_one_fewer(self):
        for web in many_webs():
            told = colouring(web, (0,) * len(web))
            for thing in (told + (0,), told + (99,), told[:-1], told[1:], (), told * 2):
                self.assertIs(is_colouring(web, (0,) * len(web), thing), False)

    def test_other_kinds(self):
        for web in (ring(4), lane(4), lane(1), ring(2)):
            signs = (0,) * len(web)
            for numbers in (colouring(web, signs), tuple(range(len(web)))):
                for thing in changed(numbers, other_kinds):
                    self.assertIs(is_colouring(web, signs, thing), False)
        self.assertIs(is_colouring(ring(2), (0, 0), (True, True)), False)
        self.assertIs(is_colouring(ring(2), (0, 0), ((), ())), False)

    def test_things_of_all_kinds(self):
        for web in (ring(1), ring(2), lane(3), ring(8)):
            for thing in strange_things():
                self.assertIs(is_colouring(web, (0,) * len(web), thing), False)


class AllUnlike(unittest.TestCase):
    def test_all_unlike(self):
        for colours in ((0,), (0, 1), (1, 0, -1), tuple(range(8)), (10 ** 30, 10 ** 30 + 1)):
            self.assertIs(all_unlike(colours), True)
        for colours in ((0, 0), (0, 1, 0), (5, 4, 3, 3), (0, 1, 2, 3, 4, 5, 6, 0), (10 ** 30, 10 ** 30)):
            self.assertIs(all_unlike(colours), False)


if __name__ == "__main__":
    unittest.main()
