import itertools
import unittest

from helper import (ALL_EYES, BLIND, EYES, Dice, beat_by_words, big_webs, drawn_machine, drawn_standing, drawn_web,
                    drawn_whole, is_told, room_orders, sets_of, sight_by_words, sights_of, small_webs, whole_otherwise)
from ringmeet.beats import beat, begun, is_met, sight_of
from ringmeet.naming import renamed
from ringmeet.webs import lane, ring

LOOP = (((0, 1), (0, 0), (1, 0)), ((0, 2),))
TWICE = (((1, 1), (1, 2), (1, 0)), ((0, 2), (0, 0), (0, 1)))


def whole_of(*walkers, chalk=()):
    return tuple(walkers), tuple(chalk)


def blind(*deeds):
    """A machine that sees nothing, with a deed for each mood."""
    return (), tuple(((mood, BLIND), deed) for mood, deed in enumerate(deeds))


class Begun(unittest.TestCase):
    def test_written_out(self):
        self.assertEqual(begun(((0, 2, 3), (1, 2))), (((0, 0, 0), (2, 0, 0), (3, 0, 0)), (1, 2)))
        self.assertEqual(begun(((5,), ())), (((5, 0, 0),), ()))

    def test_all_standings(self):
        for rooms in sets_of(5)[1:]:
            for chalk in sets_of(5):
                told = begun((rooms, chalk))
                self.assertTrue(is_told(told))
                self.assertEqual(told, (tuple((room, 0, 0) for room in rooms), chalk))

    def test_eight_walkers(self):
        every = tuple(range(8))
        self.assertEqual(begun((every, every)), (tuple((room, 0, 0) for room in every), every))


class SightOf(unittest.TestCase):
    def test_written_out(self):
        web = lane(3)
        whole = whole_of((1, 2, 5), (0, 0, 0), (1, 1, 5), chalk=(0, 2))
        self.assertEqual(sight_of(web, EYES, whole, 0), (2, 0, 2, 1))
        self.assertEqual(sight_of(web, EYES, whole, 1), (0, 1, 1, 0))
        self.assertEqual(sight_of(web, EYES, whole, 2), (1, 0, 2, 1))
        self.assertEqual(sight_of(web, (), whole, 0), BLIND)
        self.assertEqual(sight_of(web, ("chalk", "doors"), whole, 1), (None, 1, 1, None))

    def test_each_set_of_eyes(self):
        dice = Dice(3)
        for web in big_webs() + [lane(1), lane(2), ring(1), LOOP, TWICE]:
            for eyes in ALL_EYES:
                for many in (1, 2, 3, 8):
                    whole = drawn_whole(dice, web, many, 9)
                    for k in range(many):
                        told = sight_of(web, eyes, whole, k)
                        self.assertEqual(told, sight_by_words(web, eyes, whole, k))
                        self.assertIn(told, sights_of(eyes))
                        self.assertTrue(is_told(told))
                        self.assertEqual([part is None for part in told], [eye not in eyes for eye in EYES])

    def test_each_mark_and_other(self):
        for rooms in itertools.product(range(3), repeat=3):
            for chalk in sets_of(3):
                whole = whole_of(*[(room, 0, 0) for room in rooms], chalk=chalk)
                for k, room in enumerate(rooms):
                    self.assertEqual(sight_of(ring(3), EYES, whole, k),
                                     (0, int(room in chalk), 2, int(rooms.count(room) > 1)))

    def test_one_walker_is_alone(self):
        self.assertEqual(sight_of(lane(1), EYES, whole_of((0, 0, 0)), 0), (0, 0, 0, 0))
        self.assertEqual(sight_of(ring(1), EYES, whole_of((0, 2, 3), chalk=(0,)), 0), (2, 1, 2, 0))


class Hands(unittest.TestCase):
    def behind(self, hands, chalked):
        """Whether room 1 is chalked, behind a beat of walkers there with these hands."""
        machine = blind(*[(0, hand, None) for hand in hands])
        walkers = [(1, 0, mood) for mood in range(len(hands))]
        told = beat(lane(3), machine, whole_of(*walkers, chalk=(0, 1) if chalked else (0,)))
        self.assertIn(0, told[1])
        self.assertNotIn(2, told[1])
        return 1 in told[1]

    def test_all_hands_of_some_walkers(self):
        for many in (1, 2, 3):
            for hands in itertools.product(("leave", "mark", "wipe"), repeat=many):
                for chalked in (False, True):
                    asked = "mark" in hands or (chalked and "wipe" not in hands)
                    self.assertIs(self.behind(hands, chalked), asked, (hands, chalked))

    def test_rooms_without_a_walker_stay(self):
        for chalk in sets_of(4):
            for hand in ("leave", "mark", "wipe"):
                told = beat(ring(4), blind((0, hand, None)), whole_of((2, 0, 0), chalk=chalk))[1]
                self.assertEqual(set(told) - {2}, set(chalk) - {2})

    def test_the_room_is_the_one_ahead_of_the_step(self):
        told = beat(ring(4), blind((0, "mark", 0)), whole_of((2, 0, 0)))
        self.assertEqual(told, whole_of((3, 2, 0), chalk=(2,)))
        told = beat(ring(4), blind((0, "wipe", 0)), whole_of((2, 0, 0), chalk=(2, 3)))
        self.assertEqual(told, whole_of((3, 2, 0), chalk=(3,)))

    def test_chalk_rises(self):
        whole = whole_of((7, 0, 0), (0, 0, 0), (5, 0, 0), (0, 0, 0), chalk=(2, 6))
        self.assertEqual(beat(ring(8), blind((0, "mark", None)), whole)[1], (0, 2, 5, 6, 7))


class Steps(unittest.TestCase):
    def test_a_door_that_is_there(self):
        self.assertEqual(beat(ring(5), blind((0, "leave", 0)), whole_of((4, 0, 0))), whole_of((0, 2, 0)))
        self.assertEqual(beat(ring(5), blind((0, "leave", 1)), whole_of((0, 2, 0))), whole_of((4, 1, 0)))

    def test_a_door_that_is_not_there_or_none(self):
        for came in (0, 1, 2):
            for step in (None, 2, 3):
                whole = whole_of((3, came, 0), chalk=(3,))
                self.assertEqual(beat(ring(5), blind((0, "leave", step)), whole), whole)
        for step in (None, 0, 1, 2, 3):
            self.assertEqual(beat(lane(1), blind((7, "leave", step)), whole_of((0, 0, 0))), whole_of((0, 0, 7)))

    def test_loops(self):
        for step, came in ((0, 2), (1, 1)):
            self.assertEqual(beat(LOOP, blind((0, "leave", step)), whole_of((0, 3, 0))), whole_of((0, came, 0)))
        self.assertEqual(beat(LOOP, blind((0, "leave", 0)), whole_of((1, 0, 0))), whole_of((0, 3, 0)))

    def test_several_doors_to_one_room(self):
        for step in range(3):
            there, back = TWICE[0][step]
            self.assertEqual(beat(TWICE, blind((0, "leave", step)), whole_of((0, 0, 0))),
                             whole_of((1, 1 + back, 0)))
            self.assertEqual(beat(TWICE, blind((0, "leave", back)), whole_of((1, 1 + back, 0))),
                             whole_of((0, 1 + step, 0)))

    def test_each_door_of_big_webs(self):
        for web in big_webs():
            for room, doors in enumerate(web):
                for step, (there, back) in enumerate(doors):
                    self.assertEqual(beat(web, blind((1, "leave", step)), whole_of((room, 0, 0))),
                                     whole_of((there, 1 + back, 1)))

    def test_walkers_that_pass_one_another(self):
        told = beat(ring(4), blind((0, "leave", 0), (1, "leave", 1)), whole_of((1, 0, 0), (2, 0, 1)))
        self.assertEqual(told, whole_of((2, 2, 0), (1, 1, 1)))
        self.assertIs(is_met(told), False)

    def test_walkers_keep_their_places_in_the_row(self):
        told = beat(lane(3), blind((0, "leave", 0), (1, "leave", None)), whole_of((2, 0, 0), (0, 0, 1), (1, 0, 1)))
        self.assertEqual(told, whole_of((1, 2, 0), (0, 0, 1), (1, 0, 1)))


class Moods(unittest.TestCase):
    def test_the_mood_is_the_deeds(self):
        machine = blind((2, "leave", None), (0, "leave", 0), (3999, "mark", 3))
        self.assertEqual(beat(ring(3), machine, whole_of((0, 0, 0), (0, 0, 1), (1, 0, 2))),
                         whole_of((0, 0, 2), (1, 2, 0), (1, 0, 3999), chalk=(1,)))

    def test_no_row(self):
        for eyes in ALL_EYES:
            for mood in (0, 1, 3999):
                whole = whole_of((0, 1, mood), (2, 0, 0), chalk=(2,))
                self.assertEqual(beat(ring(3), (eyes, ()), whole), whole)

    def test_no_row_for_this_sight(self):
        machine = ("chalk",), (((4, (None, 1, None, None)), (5, "wipe", 0)),)
        whole = whole_of((0, 0, 4), (1, 0, 4), (1, 0, 3), chalk=(1,))
        self.assertEqual(beat(ring(3), machine, whole), whole_of((0, 0, 4), (2, 2, 5), (1, 0, 3)))


class AtOnce(unittest.TestCase):
    def test_what_one_marks_the_other_does_not_see_yet(self):
        rows = (((0, (None, 0, None, None)), (0, "mark", None)), ((0, (None, 1, None, None)), (0, "wipe", 0)))
        machine = ("chalk",), rows
        whole = whole_of((0, 0, 0), (0, 0, 0))
        whole = beat(ring(3), machine, whole)
        self.assertEqual(whole, whole_of((0, 0, 0), (0, 0, 0), chalk=(0,)))
        self.assertEqual(beat(ring(3), machine, whole), whole_of((1, 2, 0), (1, 2, 0)))

    def test_who_goes_is_still_seen(self):
        rows = (((0, (None, None, None, 0)), (0, "leave", 0)), ((0, (None, None, None, 1)), (1, "leave", 0)))
        told = beat(ring(4), (("others",), rows), whole_of((0, 0, 0), (0, 0, 0), (1, 0, 0)))
        self.assertEqual(told, whole_of((1, 2, 1), (1, 2, 1), (2, 2, 0)))

    def test_drawn_machines_by_the_documents_words(self):
        dice = Dice(5)
        webs = small_webs(3, 6) + big_webs() + [drawn_web(dice, 1 + k % 8) for k in range(40)]
        for eyes in ALL_EYES:
            for web in webs[::3] if len(eyes) > 2 else webs:
                machine = drawn_machine(dice, eyes, 3)
                whole = drawn_whole(dice, web, 1 + dice.roll(8), 4)
                for _ in range(6):
                    behind = beat(web, machine, whole)
                    self.assertEqual(behind, beat_by_words(web, machine, whole))
                    self.assertTrue(is_told(behind))
                    whole = behind

    def test_rooms_numbered_otherwise(self):
        dice = Dice(6)
        for web in big_webs() + small_webs(3, 4):
            machine = drawn_machine(dice, dice.pick(ALL_EYES), 2)
            whole = drawn_whole(dice, web, 4, 2)
            for order in room_orders(web):
                self.assertEqual(beat(renamed(web, order), machine, whole_otherwise(order, whole)),
                                 whole_otherwise(order, beat(web, machine, whole)))

    def test_from_standings(self):
        dice = Dice(7)
        for k in range(60):
            web = drawn_web(dice, 1 + k % 8)
            machine = drawn_machine(dice, EYES, 2)
            whole = begun(drawn_standing(dice, web))
            for _ in range(10):
                self.assertEqual(beat(web, machine, whole), beat_by_words(web, machine, whole))
                whole = beat(web, machine, whole)


class IsMet(unittest.TestCase):
    def test_one_walker(self):
        for room in range(8):
            self.assertIs(is_met(whole_of((room, 0, 0))), True)

    def test_all_rooms_of_some_walkers(self):
        for many in range(1, 5):
            for rooms in itertools.product(range(3), repeat=many):
                whole = whole_of(*[(room, k % 3, k) for k, room in enumerate(rooms)], chalk=(1,))
                self.assertIs(is_met(whole), len(set(rooms)) == 1)

    def test_all_but_one(self):
        for k in range(8):
            rooms = [3] * 8
            self.assertIs(is_met(whole_of(*[(room, 0, 0) for room in rooms])), True)
            rooms[k] = 4
            self.assertIs(is_met(whole_of(*[(room, 0, 0) for room in rooms])), False)


if __name__ == "__main__":
    unittest.main()
