import unittest

from helper import (ALL_EYES, BLIND, EYES, HANDS, Dice, big_webs, drawn_machine, drawn_standing, drawn_web, is_told,
                    sets_of, sights_of)
from ringmeet.machines import is_machine
from ringmeet.quiet import is_quiet, marking
from ringmeet.runs import walked
from ringmeet.webs import lane, ring


def still(eyes, moods):
    return eyes, tuple(((mood, sight), (mood, "leave", 0)) for mood in range(moods) for sight in sights_of(eyes))


class IsQuiet(unittest.TestCase):
    def test_no_rows(self):
        for eyes in ALL_EYES:
            for many in range(1, 9):
                self.assertIs(is_quiet((eyes, ()), many), "others" not in eyes or many <= 2)

    def test_hands_that_leave_alone(self):
        for eyes in ALL_EYES:
            for many in (1, 2, 3, 8):
                self.assertIs(is_quiet(still(eyes, 2), many), "others" not in eyes or many <= 2)

    def test_a_hand_that_marks_or_wipes_at_any_one_row(self):
        for eyes in ((), ("came",), ("chalk", "others"), ("came", "doors", "others")):
            rows = still(eyes, 2)[1]
            for k, (key, deed) in enumerate(rows):
                for hand in ("mark", "wipe"):
                    other = rows[:k] + ((key, (0, hand, None)),) + rows[k + 1:]
                    for many in (1, 2, 3):
                        self.assertIs(is_quiet((eyes, other), many), False)

    def test_of_one_two_three_walkers(self):
        told = [is_quiet(still(("others",), 1), many) for many in (1, 2, 3)]
        self.assertEqual(told, [True, True, False])
        self.assertEqual([is_quiet(still(("came", "chalk", "doors"), 1), many) for many in (1, 2, 3)], [True] * 3)


class Marking(unittest.TestCase):
    def follows(self, web, machine, standing, beats):
        """The marking one goes as the other, a beat behind."""
        rooms, chalk = standing
        ahead = walked(web, machine, (rooms, tuple(sorted(set(rooms) | set(chalk)))), beats)
        behind = walked(web, marking(machine), standing, beats + 1)
        self.assertEqual(behind[0][1], chalk)
        for one, other in zip(ahead, behind[1:]):
            self.assertEqual([walker[:2] for walker in other[0]], [walker[:2] for walker in one[0]])
            self.assertEqual(other[1], one[1])

    def test_the_first_beat(self):
        for eyes in ALL_EYES:
            for machine in ((eyes, ()), still(eyes, 1)):
                for web, standing in ((ring(4), ((0, 2), ())), (ring(4), ((0, 2), (1, 2))), (lane(1), ((0,), ()))):
                    first, second = walked(web, marking(machine), standing, 1)
                    self.assertEqual(second[1], tuple(sorted(set(standing[0]) | set(standing[1]))))
                    self.assertEqual([walker[:2] for walker in second[0]], [walker[:2] for walker in first[0]])

    def test_beat_by_beat(self):
        dice = Dice(21)
        webs = big_webs() + [drawn_web(dice, 1 + k % 8) for k in range(16)]
        for k, web in enumerate(webs):
            for n in range(4):
                machine = drawn_machine(dice, ALL_EYES[(4 * k + n) % 16], 1 + dice.roll(4))
                standing = drawn_standing(dice, web)
                self.follows(web, machine, standing, 15)
                self.follows(web, machine, (standing[0], ()), 15)

    def test_all_eyes_and_hands_on_one_web(self):
        dice = Dice(22)
        for eyes in ALL_EYES:
            for hands in (HANDS, ("leave",), ("wipe",), ("mark", "wipe")):
                machine = drawn_machine(dice, eyes, 2, hands)
                for rooms in sets_of(4)[1:]:
                    self.follows(ring(4), machine, (rooms, dice.some(range(4))), 6)

    def test_machines_without_rows(self):
        for eyes in ALL_EYES:
            self.follows(ring(5), (eyes, ()), ((0, 1, 3), (4,)), 5)

    def test_it_is_a_machine_of_the_same_eyes(self):
        dice = Dice(23)
        for eyes in ALL_EYES:
            for machine in ((eyes, ()), still(eyes, 3), drawn_machine(dice, eyes, 3)):
                told = marking(machine)
                self.assertIs(is_machine(told), True)
                self.assertEqual(told[0], eyes)
                self.assertTrue(is_told(told))

    def test_many_moods(self):
        machine = (), tuple(((mood, BLIND), (mood + 1 if mood < 3898 else 3998, "leave", mood % 2))
                            for mood in range(3899)) + (((3998, BLIND), (0, "wipe", 0)),)
        self.assertEqual(len(machine[1]), 3900)
        self.assertIs(is_machine(machine), True)
        self.assertIs(is_machine(marking(machine)), True)
        self.follows(ring(3), machine, ((0, 2), (1,)), 60)
        short = (), (((0, BLIND), (3998, "leave", 0)), ((3998, BLIND), (3997, "wipe", 1)))
        self.assertIs(is_machine(marking(short)), True)
        self.follows(ring(4), short, ((0, 2), ()), 5)

    def test_many_rows(self):
        rows = tuple(((mood, sight), ((mood + 7) % 39, HANDS[(mood + sight[0]) % 3], (mood + sight[2]) % 4))
                     for mood in range(39) for sight in sights_of(EYES))
        self.assertEqual(len(rows), 3900)
        machine = EYES, rows
        self.assertIs(is_machine(machine), True)
        self.assertIs(is_machine(marking(machine)), True)
        for web in (ring(8), lane(5), big_webs()[0]):
            self.follows(web, machine, ((0, 2, 3), (1,)), 40)


if __name__ == "__main__":
    unittest.main()
