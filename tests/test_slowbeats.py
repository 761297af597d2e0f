import unittest

from helper import (ALL_EYES, BLIND, EYES, Dice, beat_by_words, big_webs, drawn_machine, drawn_standing, drawn_web,
                    drawn_whole, is_told, room_orders, sets_of, small_webs, whole_otherwise)
from ringmeet.beats import beat, begun
from ringmeet.naming import renamed
from ringmeet.runs import walked
from ringmeet.slowbeats import slow_beat, slow_walked
from ringmeet.webs import lane, ring

ON = ((), (((0, BLIND), (0, "leave", 0)),))


def choices_of(many):
    return sets_of(many)[1:]


def webs_to_ask(dice):
    return small_webs(3, 4) + big_webs() + [drawn_web(dice, 1 + k % 8) for k in range(24)]


class SlowBeat(unittest.TestCase):
    def test_written_out(self):
        whole = (((0, 0, 0), (2, 0, 0)), (1,))
        self.assertEqual(slow_beat(ring(4), ON, whole, (0,)), (((1, 2, 0), (2, 0, 0)), (1,)))
        self.assertEqual(slow_beat(ring(4), ON, whole, (1,)), (((0, 0, 0), (3, 2, 0)), (1,)))
        self.assertEqual(slow_beat(ring(4), ON, whole, (0, 1)), (((1, 2, 0), (3, 2, 0)), (1,)))

    def test_each_choice_by_the_documents_words(self):
        dice = Dice(101)
        for web in webs_to_ask(dice):
            for _ in range(3):
                machine = drawn_machine(dice, dice.pick(ALL_EYES), 3)
                many = 1 + dice.roll(4)
                whole = drawn_whole(dice, web, many, 4)
                for choice in choices_of(many):
                    told = slow_beat(web, machine, whole, choice)
                    self.assertTrue(is_told(told))
                    self.assertEqual(told, beat_by_words(web, machine, whole, choice))

    def test_eight_walkers(self):
        dice = Dice(102)
        for web in big_webs()[:4]:
            machine = drawn_machine(dice, EYES, 2)
            whole = drawn_whole(dice, web, 8, 2)
            for choice in choices_of(8):
                self.assertEqual(slow_beat(web, machine, whole, choice), beat_by_words(web, machine, whole, choice))

    def test_the_choice_of_all_is_beat(self):
        dice = Dice(103)
        for web in webs_to_ask(dice):
            for many in (1, 2, 5, 8):
                machine = drawn_machine(dice, dice.pick(ALL_EYES), 3)
                whole = drawn_whole(dice, web, many, 4)
                self.assertEqual(slow_beat(web, machine, whole, tuple(range(many))), beat(web, machine, whole))

    def test_those_who_rest_stay_as_they_are(self):
        dice = Dice(104)
        for web in webs_to_ask(dice):
            machine = drawn_machine(dice, dice.pick(ALL_EYES), 3)
            whole = drawn_whole(dice, web, 5, 4)
            for choice in choices_of(5):
                told = slow_beat(web, machine, whole, choice)
                for k in range(5):
                    if k not in choice:
                        self.assertEqual(told[0][k], whole[0][k])
                touched = {whole[0][k][0] for k in choice}
                self.assertEqual(set(told[1]) - touched, set(whole[1]) - touched)

    def test_chalk_below_those_who_rest(self):
        for hand, chalk in (("mark", ()), ("wipe", (1,))):
            machine = ((), (((0, BLIND), (0, hand, None)), ((1, BLIND), (1, "leave", None))))
            whole = (((1, 0, 0), (1, 0, 1)), chalk)
            # Who rests neither marks nor wipes; another one, in the same room, does.
            self.assertEqual(slow_beat(lane(3), machine, whole, (1,)), whole)
            self.assertEqual(slow_beat(lane(3), machine, whole, (0,))[1], (1,) if hand == "mark" else ())
        marks = ((), (((0, BLIND), (0, "wipe", None)), ((1, BLIND), (1, "mark", None))))
        whole = (((1, 0, 0), (1, 0, 1)), (1,))
        self.assertEqual(slow_beat(lane(3), marks, whole, (0,))[1], ())
        self.assertEqual(slow_beat(lane(3), marks, whole, (1,))[1], (1,))
        self.assertEqual(slow_beat(lane(3), marks, whole, (0, 1))[1], (1,))

    def test_those_who_rest_are_seen(self):
        rows = (((0, (None, None, None, 0)), (0, "leave", 0)), ((0, (None, None, None, 1)), (7, "leave", 1)))
        whole = (((0, 0, 0), (0, 0, 0), (2, 0, 0)), ())
        machine = (("others",), rows)
        self.assertEqual(slow_beat(ring(5), machine, whole, (0,)), (((4, 1, 7), (0, 0, 0), (2, 0, 0)), ()))
        self.assertEqual(slow_beat(ring(5), machine, whole, (2,)), (((0, 0, 0), (0, 0, 0), (3, 2, 0)), ()))
        self.assertEqual(slow_beat(ring(5), machine, whole, (1, 2)), (((0, 0, 0), (4, 1, 7), (3, 2, 0)), ()))

    def test_one_walker(self):
        for room in range(3):
            self.assertEqual(slow_beat(ring(3), ON, (((room, 0, 0),), ()), (0,)), ((((room + 1) % 3, 2, 0),), ()))

    def test_rooms_numbered_otherwise(self):
        dice = Dice(105)
        for web in big_webs():
            machine = drawn_machine(dice, dice.pick(ALL_EYES), 2)
            whole = drawn_whole(dice, web, 4, 2)
            for order in room_orders(web):
                for choice in choices_of(4)[::3]:
                    told = slow_beat(renamed(web, order), machine, whole_otherwise(order, whole), choice)
                    self.assertEqual(told, whole_otherwise(order, slow_beat(web, machine, whole, choice)))


class SlowWalked(unittest.TestCase):
    def test_no_choice_and_one(self):
        standing = ((0, 2), (1,))
        self.assertEqual(slow_walked(ring(4), ON, standing, ()), (begun(standing),))
        self.assertEqual(slow_walked(ring(4), ON, standing, ((1,),)), (begun(standing), (((0, 0, 0), (3, 2, 0)), (1,))))

    def test_many(self):
        dice = Dice(106)
        for web in webs_to_ask(dice):
            machine = drawn_machine(dice, dice.pick(ALL_EYES), 3)
            standing = drawn_standing(dice, web)
            choices = tuple(dice.pick(choices_of(len(standing[0]))) for _ in range(dice.roll(30)))
            told = slow_walked(web, machine, standing, choices)
            self.assertTrue(is_told(told))
            self.assertEqual(len(told), 1 + len(choices))
            self.assertEqual(told[0], begun(standing))
            for one, other, choice in zip(told, told[1:], choices):
                self.assertEqual(other, beat_by_words(web, machine, one, choice))

    def test_hundreds_of_choices(self):
        choices = tuple((k % 2,) for k in range(900))
        told = slow_walked(ring(8), ON, ((0, 3), ()), choices)
        self.assertEqual(len(told), 901)
        self.assertEqual([walker[0] for walker in told[-1][0]], [450 % 8, (3 + 450) % 8])

    def test_all_at_each_beat_is_walked(self):
        dice = Dice(107)
        for web in webs_to_ask(dice):
            machine, standing = drawn_machine(dice, dice.pick(ALL_EYES), 2), drawn_standing(dice, web)
            every = (tuple(range(len(standing[0]))),) * 12
            self.assertEqual(slow_walked(web, machine, standing, every), walked(web, machine, standing, 12))

    def test_walks_on_when_met(self):
        told = slow_walked(ring(3), ON, ((0, 1), ()), ((0,), (0,), (1,)))
        self.assertEqual([tuple(walker[0] for walker in whole[0]) for whole in told], [(0, 1), (1, 1), (2, 1), (2, 2)])


class OwnWays(unittest.TestCase):
    """Of machines that leave chalk as it is and don't see others each walker goes its own way, however slow."""

    def test_each_walker_goes_its_own_way(self):
        dice = Dice(108)
        for web in webs_to_ask(dice):
            for eyes in [eyes for eyes in ALL_EYES if "others" not in eyes]:
                machine, standing = drawn_machine(dice, eyes, 3, ("leave",)), drawn_standing(dice, web)
                many = len(standing[0])
                choices = tuple(dice.pick(choices_of(many)) for _ in range(15))
                ways = walked(web, machine, standing, 15)
                for t, whole in enumerate(slow_walked(web, machine, standing, choices)):
                    for k in range(many):
                        stood = sum(k in choice for choice in choices[:t])
                        self.assertEqual(whole[0][k], ways[stood][0][k])
                    self.assertEqual(whole[1], standing[1])

    def test_machines_that_see_others_may_not(self):
        rows = (((0, (None, None, None, 0)), (0, "leave", 0)), ((0, (None, None, None, 1)), (0, "leave", None)))
        machine = (("others",), rows)
        self.assertEqual(walked(ring(4), machine, ((0, 1), ()), 1)[-1][0][0][0], 1)
        told = slow_walked(ring(4), machine, ((0, 1), ()), ((0,), (0,)))
        self.assertEqual(told[-1][0][0][0], 1)


if __name__ == "__main__":
    unittest.main()
