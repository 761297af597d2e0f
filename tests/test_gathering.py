import itertools
import unittest

from helper import (Dice, big_webs, cover_webs, drawn_web, hard_fields, is_told, room_orders, sets_of, small_webs,
                    standing_otherwise)
from ringmeet.beats import is_met
from ringmeet.colours import all_unlike, colouring
from ringmeet.errors import Alike, MeetError
from ringmeet.gathering import gatherer
from ringmeet.machines import is_machine
from ringmeet.naming import renamed
from ringmeet.nevers import never
from ringmeet.quiet import is_quiet, marking
from ringmeet.runs import walked
from ringmeet.standings import chalk_signs
from ringmeet.webs import lane, ring

ALIKE = (ring(4), ((0, 1), (0, 2)))


def is_unlike(field):
    web, standing = field
    return all_unlike(colouring(web, chalk_signs(web, standing[1])))


def drawn_fields(dice, many, walkers):
    """So many fields of drawn webs, with so many walkers together at most."""
    fields = []
    while len(fields) < many:
        web = drawn_web(dice, 1 + dice.roll(8))
        rooms = tuple(range(len(web)))
        most = walkers - (many - len(fields) - 1)
        field = (web, (tuple(sorted(dice.some(rooms, 1)[:most])), dice.some(rooms)))
        if is_unlike(field):
            fields.append(field)
            walkers -= len(field[1][0])
    return tuple(fields)


class Gathers(unittest.TestCase):
    def gathers(self, fields):
        """Look at all that is promised of what is told for the fields; tell it."""
        machine, beats = told = gatherer(fields)
        self.assertTrue(is_told(told))
        self.assertIs(is_machine(machine), True)
        self.assertEqual(machine[0], ("came", "chalk", "doors"))
        self.assertIs(is_quiet(machine, 24), True)
        self.assertTrue(all(key[0] < 3999 and deed[0] < 3999 for key, deed in machine[1]))
        self.assertLessEqual(len(machine[1]), 3900)
        self.assertIn(beats, range(391))
        for web, standing in fields:
            self.comes_together(web, machine, standing, beats)
        return told

    def comes_together(self, web, machine, standing, beats):
        wholes = walked(web, machine, standing, min(400, beats + 9))
        self.assertTrue(any(is_met(whole) for whole in wholes[:beats + 1]))
        rooms = {walker[0] for whole in wholes[beats:] for walker in whole[0]}
        self.assertEqual(len(rooms), 1, (web, standing))
        came = {tuple(walker[1] for walker in whole[0]) for whole in wholes[beats:]}
        self.assertEqual(len(came), 1, "a walker goes through a loop, and doesn't stay")


class OneField(Gathers):
    def test_one_walker(self):
        for web in (lane(1), ring(1), lane(2), lane(8)):
            for room in range(len(web)):
                chalk = (0,) if web == lane(2) else ()
                self.gathers(((web, ((room,), chalk)),))

    def test_small_webs(self):
        for web in small_webs(3, 6):
            for chalk in sets_of(len(web)):
                field = (web, (tuple(range(len(web))), chalk))
                if is_unlike(field):
                    self.gathers((field,))

    def test_all_walkers_of_a_ring(self):
        for many in range(1, 9):
            for rooms in sets_of(many)[1:] if many < 6 else [tuple(range(many)), (0, many - 1), (1, 2, many - 2)]:
                self.gathers(((ring(many), (rooms, (0,))),))

    def test_lanes(self):
        for many in range(1, 9):
            for rooms in sets_of(many)[1:] if many < 6 else [tuple(range(many)), (0, many - 1), (1, 2, many - 2)]:
                # A lane of two is the one whose ends look alike.
                self.gathers(((lane(many), (rooms, (1,) if many == 2 else ())),))

    def test_a_walker_in_each_room_of_hard_webs(self):
        found = 0
        for field in hard_fields():
            if is_unlike(field):
                found += 1
                self.gathers((field,))
        self.assertGreater(found, 50)

    def test_drawn_webs(self):
        dice = Dice(51)
        for k in range(150):
            self.gathers(drawn_fields(dice, 1, 8))


class SeveralFields(Gathers):
    def test_twelve_fields_of_two_walkers(self):
        dice = Dice(52)
        for k in range(25):
            fields = tuple((web, (dice.some(standing[0], min(2, len(web)))[:2], standing[1]))
                           for web, standing in dice.shuffled([f for f in hard_fields() if is_unlike(f)])[:12])
            self.gathers(fields)

    def test_twelve_fields_of_drawn_webs(self):
        dice = Dice(53)
        for k in range(25):
            fields = drawn_fields(dice, 12, 24)
            self.assertLessEqual(sum(len(standing[0]) for web, standing in fields), 24)
            self.gathers(fields)

    def test_fields_with_all_walkers(self):
        hard = [field for field in hard_fields() if is_unlike(field)]
        for k in range(0, len(hard) - 3):
            fields = (hard[k], hard[(7 * k + 1) % len(hard)], hard[(11 * k + 5) % len(hard)])
            self.gathers(fields)

    def test_rings_and_lanes_together(self):
        self.gathers(((ring(8), (tuple(range(8)), (0,))), (ring(7), (tuple(range(7)), (0,))),
                      (ring(6), (tuple(range(6)), (0,))), (ring(5), ((0, 1, 2), (0,)))))
        self.gathers(((lane(8), (tuple(range(8)), ())), (lane(7), (tuple(range(7)), ())),
                      (lane(6), (tuple(range(6)), ())), (lane(5), ((0, 2, 4), ()))))
        marks = [(0,), (0, 1), (0, 2), (0, 3), (0, 1, 2), (0, 1, 3), (0, 1, 4), (0, 1, 5), (0, 2, 3), (0, 2, 5),
                 (0, 1, 2, 3), (0, 1, 2, 4)]
        self.gathers(tuple((ring(8), ((2, 6), chalk)) for chalk in marks))
        self.gathers(tuple((ring(many), ((0, 1), (2,))) for many in (3, 4, 5, 6, 7, 8)))

    def test_the_same_web_again(self):
        for rooms in itertools.combinations(sets_of(4)[1:], 2):
            self.gathers(tuple((lane(4), (some, ())) for some in rooms))

    def test_the_same_web_numbered_otherwise(self):
        dice = Dice(54)
        for field in [field for field in hard_fields() if is_unlike(field)][::3]:
            orders = list(room_orders(field[0]))
            fields = [field]
            for _ in range(2):
                order = dice.pick(orders)
                some = (dice.some(field[1][0], 1), field[1][1])
                fields.append((renamed(field[0], order), standing_otherwise(order, some)))
            self.gathers(tuple(fields))

    def test_a_web_and_one_that_is_chalked_otherwise(self):
        for one, other in itertools.combinations(sets_of(3), 2):
            self.gathers(((lane(3), ((0, 1, 2), one)), (lane(3), ((0, 1, 2), other))))

    def test_numbered_otherwise_the_same_is_told(self):
        dice = Dice(55)
        for k in range(20):
            fields = drawn_fields(dice, 1 + k % 4, 8)
            others = []
            for web, standing in fields:
                order = tuple(dice.shuffled(range(len(web))))
                others.append((renamed(web, order), standing_otherwise(order, standing)))
            self.assertEqual(self.gathers(tuple(others)), self.gathers(fields))


class Refused(unittest.TestCase):
    def refused(self, fields, number):
        with self.assertRaises(Alike) as caught:
            gatherer(fields)
        self.assertEqual(caught.exception.number, number)
        self.assertIs(type(caught.exception.number), int)
        self.assertIsInstance(caught.exception, MeetError)

    def test_alone(self):
        for field in (ALIKE, (ring(2), ((0,), ())), (lane(2), ((0,), ())), (ring(8), ((0, 1), (3, 7)))):
            self.refused((field,), 0)

    def test_at_any_place(self):
        good = [(lane(3), ((0, 1), ())), (ring(3), ((0, 2), (1,))), (lane(1), ((0,), ()))]
        for many in (2, 3, 12):
            for at in range(many):
                fields = [good[k % 3] for k in range(many)]
                fields[at] = ALIKE
                self.refused(tuple(fields), at)
                fields[-1] = (ring(5), ((0, 1), ()))
                self.refused(tuple(fields), at)

    def test_just_those_whose_chalk_leaves_two_alike(self):
        for web in small_webs(3, 4) + cover_webs() + big_webs():
            for chalk in ((), (0,), tuple(range(len(web)))):
                field = (web, ((0,), chalk))
                if is_unlike(field):
                    gatherer((field,))
                else:
                    self.refused((field,), 0)
                    self.refused(((lane(3), ((0,), ())), field), 1)

    def test_walkers_do_not_part_rooms(self):
        """Two rooms that only the walkers part look alike all the same: here a walker stands at one of them."""
        self.assertIsNone(never(ring(2), ((0,), ()), False))
        self.refused(((ring(2), ((0,), ())),), 0)


class Marked(Gathers):
    def marked(self, fields):
        """One machine for standings without chalk: all mark their rooms first."""
        machine, beats = gatherer(tuple((web, (rooms, rooms)) for web, rooms in fields))
        marks = marking(machine)
        self.assertIs(is_machine(marks), True)
        for web, rooms in fields:
            self.comes_together(web, marks, (rooms, ()), beats + 1)

    def test_all_standings_that_are_not_never(self):
        for web in [ring(many) for many in range(1, 7)] + [lane(4)] + big_webs()[:3]:
            fields = [(web, rooms) for rooms in sets_of(len(web))[1:] if never(web, (rooms, ()), False) is None]
            for k in range(0, len(fields), 6):
                self.marked(fields[k:k + 6])

    def test_several_webs(self):
        dice = Dice(56)
        for k in range(20):
            fields = []
            while len(fields) < 8:
                web = dice.pick(cover_webs() + big_webs())
                rooms = dice.some(range(len(web)), 1)[:3]
                if never(web, (rooms, ()), False) is None:
                    fields.append((web, rooms))
            self.marked(fields)


if __name__ == "__main__":
    unittest.main()
