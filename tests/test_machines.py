import itertools
import unittest

from helper import (ALL_EYES, BLIND, EYES, MANY, changed, is_told, nested, in_tuple, other_kinds, sights_of,
                    strange_things)
from ringmeet.machines import deed_of, is_machine, sights


def full_machine(eyes, moods):
    """A row for each mood and sight, of all hands and steps by turns."""
    deeds = itertools.cycle([(mood, hand, step) for mood in range(moods) for hand in ("leave", "mark", "wipe")
                             for step in (None, 0, 1, 2, 3)])
    return eyes, tuple(((mood, sight), next(deeds)) for mood in range(moods) for sight in sights_of(eyes))


def of_moods(moods):
    """A blind machine with a row for each of some moods."""
    return (), tuple(((mood, BLIND), (0, "leave", None)) for mood in moods)


class IsMachine(unittest.TestCase):
    def holds(self, thing):
        self.assertIs(is_machine(thing), True)

    def fails(self, thing):
        self.assertIs(is_machine(thing), False)

    def with_sight(self, eyes, sight):
        return eyes, (((0, sight), (0, "leave", None)),)

    def with_deed(self, *deed):
        return (), (((0, BLIND), deed),)

    def test_all_eyes(self):
        self.assertEqual(len(ALL_EYES), 16)
        for eyes in ALL_EYES:
            self.holds((eyes, ()))
            self.holds(full_machine(eyes, 3))

    def test_eyes_that_do_not_rise_or_stand_twice(self):
        for many in range(2, 6):
            for eyes in itertools.product(EYES, repeat=many):
                self.assertIs(is_machine((eyes, ())), eyes in ALL_EYES)

    def test_eyes_that_are_none(self):
        for eye in ("", "Came", "mark", "room", "came ", "leave", b"came", 0, None, True, ("came",), ["came"]):
            self.fails(((eye,), ()))
            self.fails((("came", eye), ()))
        for eyes in (None, "came", ["came"], {"came"}, {"came": 0}, 0, True, b""):
            self.fails((eyes, ()))

    def test_parts_that_the_eyes_lack_or_have(self):
        for eyes in ALL_EYES:
            for other in ALL_EYES:
                sight = tuple(0 if eye in other else None for eye in EYES)
                self.assertIs(is_machine(self.with_sight(eyes, sight)), eyes == other)

    def test_numbers_of_a_sight(self):
        for k, eye in enumerate(EYES):
            for number in (-(10 ** 30), -2, -1, 0, 1, 2, 3, 4, 5, 6, 4000, 10 ** 30):
                sight = (0,) * k + (number,) + (0,) * (3 - k)
                self.assertIs(is_machine(self.with_sight(EYES, sight)), 0 <= number < MANY[eye])

    def test_sights_with_other_than_four_parts(self):
        for many in (0, 1, 3, 5, 8):
            self.fails(self.with_sight((), (None,) * many))
            self.fails(self.with_sight(EYES, (0,) * many))
        for sight in (None, 0, "", [None] * 4, {0: None}):
            self.fails(self.with_sight((), sight))

    def test_moods(self):
        for mood in (0, 1, 3998, 3999):
            self.holds(of_moods([mood]))
            self.holds(self.with_deed(mood, "leave", None))
        for mood in (-1, -3999, 4000, 4001, 10 ** 30, None, True, False, "0", b"0", (0,), [0]):
            self.fails(of_moods([mood]))
            self.fails(self.with_deed(mood, "leave", None))

    def test_hands(self):
        for hand in ("leave", "mark", "wipe"):
            self.holds(self.with_deed(0, hand, None))
        for hand in ("", "Leave", "leave ", "chalk", "came", b"leave", None, 0, True, ("leave",), ["leave"]):
            self.fails(self.with_deed(0, hand, None))

    def test_steps(self):
        for step in (None, 0, 1, 2, 3):
            self.holds(self.with_deed(0, "leave", step))
        for step in (-1, 4, 5, 10 ** 30, True, False, "", "0", "-", (), (0,), [0]):
            self.fails(self.with_deed(0, "leave", step))

    def test_other_than_so_many_parts(self):
        row = ((0, BLIND), (0, "leave", None))
        for thing in ((), ((),), ((), (), ()), ((), (row,), ()), ((), row), (row,), row):
            self.fails(thing)
        for deed in ((), (0,), (0, "leave"), (0, "leave", None, None)):
            self.fails(self.with_deed(*deed))
        for key in ((), (0,), (0, BLIND, 0), BLIND, 0, None):
            self.fails(((), ((key, (0, "leave", None)),)))
        for other in ((), (row[0],), row + (0,), None, 0):
            self.fails(((), (other,)))
            self.fails(((), (row, other)))

    def test_rows_that_do_not_rise(self):
        for moods in ((1, 0), (0, 2, 1), (3, 0, 1, 2), (0, 1, 1), (0, 0)):
            self.fails(of_moods(moods))
        eyes, rows = full_machine(EYES, 1)
        for k in range(len(rows) - 1):
            self.fails((eyes, rows[:k] + (rows[k + 1], rows[k]) + rows[k + 2:]))
            self.fails((eyes, rows[:k] + (rows[k], rows[k]) + rows[k + 1:]))
            self.holds((eyes, rows[:k] + rows[k + 1:]))

    def test_two_rows_with_one_mood_and_sight(self):
        deeds = [(mood, hand, step) for mood in (0, 1) for hand in ("leave", "mark") for step in (None, 0, 1)]
        for one, other in itertools.product(deeds, repeat=2):
            self.fails(((), (((0, BLIND), one), ((0, BLIND), other))))
            self.holds(((), (((0, BLIND), one), ((1, BLIND), other))))

    def test_how_many_rows(self):
        self.holds(of_moods(range(4000)))
        eyes, rows = full_machine(EYES, 40)
        self.assertEqual(len(rows), 4000)
        self.holds((eyes, rows))
        one_more = ((40, (0, 0, 0, 0)), (0, "leave", None))
        self.fails((eyes, rows + (one_more,)))
        self.holds((eyes, rows[1:] + (one_more,)))
        self.fails(of_moods(range(4001)))

    def test_other_kinds(self):
        for eyes in ((), ("chalk",), ("came", "others"), EYES):
            rows = full_machine(eyes, 1)[1][:12]
            resting = tuple((key, (mood, hand, None)) for key, (mood, hand, step) in rows)
            for machine in ((eyes, ()), (eyes, resting)):
                self.holds(machine)
                for thing in changed(machine, other_kinds):
                    self.fails(thing)

    def test_things_of_all_kinds(self):
        for thing in strange_things():
            self.fails(thing)
            self.fails((thing, (((0, BLIND), (0, "leave", None)),)))
            self.fails(((), (thing,)))
            if isinstance(thing, tuple):
                self.fails((("came",), thing))
        for core in ((), 0, None, "came"):
            deep = nested(36, in_tuple, core)
            deep_sight = ((0, deep), (0, "leave", None))
            deep_deed = ((0, BLIND), deep)
            for thing in ((deep, ()), ((), deep), ((), (deep_sight,)), ((), (deep_deed,))):
                self.fails(thing)


class Sights(unittest.TestCase):
    def test_written_out(self):
        self.assertEqual(sights(()), ((None, None, None, None),))
        self.assertEqual(sights(("chalk",)), ((None, 0, None, None), (None, 1, None, None)))
        self.assertEqual(sights(("came",)), tuple((came, None, None, None) for came in range(5)))
        self.assertEqual(sights(("chalk", "others")), ((None, 0, None, 0), (None, 0, None, 1), (None, 1, None, 0),
                                                       (None, 1, None, 1)))

    def test_of_all_eyes(self):
        for eyes in ALL_EYES:
            told = sights(eyes)
            self.assertTrue(is_told(told))
            self.assertEqual(told, tuple(sights_of(eyes)))
            many = 1
            for eye in eyes:
                many *= MANY[eye]
            self.assertEqual(len(told), many)
            self.assertTrue(all(one < other for one, other in zip(told, told[1:])))


class DeedOf(unittest.TestCase):
    def test_each_row(self):
        for eyes in ALL_EYES:
            machine = full_machine(eyes, 3)
            for (mood, sight), deed in machine[1]:
                self.assertEqual(deed_of(machine, mood, sight), deed)
                self.assertTrue(is_told(deed_of(machine, mood, sight)))

    def test_without_a_row(self):
        for eyes in ALL_EYES:
            for machine in ((eyes, ()), full_machine(eyes, 2)):
                for sight in sights_of(eyes):
                    for mood in (2, 3, 7, 3999):
                        self.assertEqual(deed_of(machine, mood, sight), (mood, "leave", None))

    def test_rows_that_are_lacking_here_and_there(self):
        eyes, rows = full_machine(("came", "chalk"), 6)
        for part in (rows[::2], rows[1::2], rows[::3], rows[:20] + rows[40:], rows[10:11], rows[-1:]):
            there = dict(part)
            for mood in range(7):
                for sight in sights_of(eyes):
                    self.assertEqual(deed_of((eyes, part), mood, sight),
                                     there.get((mood, sight), (mood, "leave", None)))

    def test_many_rows(self):
        eyes, rows = full_machine(EYES, 40)
        for (mood, sight), deed in rows:
            self.assertEqual(deed_of((eyes, rows), mood, sight), deed)
        machine = of_moods(range(0, 4000, 2))
        for mood in range(4000):
            self.assertEqual(deed_of(machine, mood, BLIND), (mood if mood % 2 else 0, "leave", None))


if __name__ == "__main__":
    unittest.main()
