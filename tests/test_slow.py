import unittest

from helper import (ALL_EYES, BLIND, HANDS, Dice, beat_by_words, big_webs, cover_webs, drawn_machine, drawn_standing,
                    drawn_web, hard_fields, is_told, room_orders, sets_of, small_webs, standing_otherwise)
from ringmeet.beats import begun, is_met
from ringmeet.colours import all_unlike, colouring
from ringmeet.gathering import gatherer
from ringmeet.naming import renamed
from ringmeet.nevers import never
from ringmeet.quiet import is_quiet
from ringmeet.runs import run, walked
from ringmeet.slow import slow
from ringmeet.slowbeats import slow_beat, slow_walked
from ringmeet.standings import chalk_signs
from ringmeet.webs import lane, ring

ON = ((), (((0, BLIND), (0, "leave", 0)),))
REST = ((), ())
# Goes on where there is no chalk, stays where there is.
TO_CHALK = (("chalk",), (((0, (None, 0, None, None)), (0, "leave", 0)),))


def count_to(many):
    """A machine that counts its moods up to so many, and rests then."""
    return (), tuple(((mood, BLIND), (mood + 1, "leave", None)) for mood in range(many))


def choices_of(many):
    return sets_of(many)[1:]


def come_to(web, machine, standing, cap=500):
    """For each whole that isn't met and is come to, its leads (choice, whole behind) to such; None beyond the cap."""
    start = begun(standing)
    found = {}
    queue = [] if is_met(start) else [start]
    while queue:
        whole = queue.pop()
        if whole in found:
            continue
        if len(found) == cap:
            return None
        behind = [(choice, beat_by_words(web, machine, whole, choice)) for choice in choices_of(len(standing[0]))]
        found[whole] = [(choice, there) for choice, there in behind if not is_met(there)]
        queue += [there for choice, there in found[whole]]
    return found


def is_dodged(leads, many):
    """Whether from some whole a round leads back to it in which each walker stands, by trying all of them."""
    for first in leads:
        known = set()
        queue = [(first, frozenset())]
        while queue:
            whole, stood = queue.pop()
            for choice, there in leads[whole]:
                state = (there, stood | set(choice))
                if there == first and len(state[1]) == many:
                    return True
                if state not in known:
                    known.add(state)
                    queue.append(state)
    return False


def drawn_case(dice):
    """(web, machine, standing) of one to three walkers."""
    web = dice.pick([lane(2), lane(3), lane(4), ring(2), ring(3), ring(4), drawn_web(dice, 1 + dice.roll(5))])
    machine = drawn_machine(dice, dice.pick(ALL_EYES), 1 + dice.roll(2), dice.pick([("leave",), HANDS]))
    rooms = dice.shuffled(range(len(web)))[:2 + dice.roll(2)]
    return web, machine, (tuple(sorted(rooms)), dice.some(range(len(web))))


def unlike_fields():
    return [(web, standing) for web, standing in hard_fields()
            if all_unlike(colouring(web, chalk_signs(web, standing[1])))]


class Slow(unittest.TestCase):
    def looks_right(self, web, machine, standing, told):
        """Look at all that is promised of what is told, but for whether it is the right word."""
        self.assertTrue(is_told(told))
        if told[0] == "sure":
            self.assertEqual(len(told), 2)
            self.ranks_are_kept(web, machine, standing, told[1])
        elif told[0] == "dodge":
            self.assertEqual(len(told), 3)
            self.is_dodged(web, machine, standing, told[1], told[2])
        else:
            self.assertEqual(told, ("open", None))

    def ranks_are_kept(self, web, machine, standing, ranks):
        many = len(standing[0])
        table = {whole: (rank, helper) for whole, rank, helper in ranks}
        self.assertEqual(sorted(table), [whole for whole, rank, helper in ranks])
        self.assertEqual(set(table), set(come_to(web, machine, standing)))
        for whole, rank, helper in ranks:
            self.assertGreaterEqual(rank, 0)
            self.assertIn(helper, range(many))
            for choice in choices_of(many):
                behind = slow_beat(web, machine, whole, choice)
                if not is_met(behind):
                    there = table[behind]
                    same = helper not in choice and there == (rank, helper)
                    self.assertTrue(there[0] < rank or same, (whole, choice, there))

    def is_dodged(self, web, machine, standing, way, turn):
        every = set(range(len(standing[0])))
        for choice in way + turn:
            self.assertEqual(choice, tuple(sorted(set(choice))))
            self.assertTrue(choice and set(choice) <= every)
        self.assertEqual({walker for choice in turn for walker in choice}, every)
        wholes = slow_walked(web, machine, standing, way + turn)
        self.assertFalse(any(is_met(whole) for whole in wholes))
        self.assertEqual(wholes[len(way)], wholes[-1])
        # Again and again: the same wholes come once more.
        self.assertEqual(slow_walked(web, machine, standing, way + turn + turn)[len(wholes):], wholes[len(way) + 1:])


class WrittenOut(Slow):
    def test_begun_met(self):
        for most in (0, 1, 400):
            for machine in (REST, ON, TO_CHALK):
                self.assertEqual(slow(ring(5), machine, ((2,), (1,)), most), ("sure", ()))
                self.assertEqual(slow(lane(1), machine, ((0,), ()), most), ("sure", ()))

    def test_who_rests_for_ever_never_comes(self):
        told = slow(lane(2), REST, ((0, 1), ()), 1)
        self.looks_right(lane(2), REST, ((0, 1), ()), told)
        self.assertEqual(told[:2], ("dodge", ()))
        self.assertEqual(slow(lane(2), REST, ((0, 1), ()), 0), ("open", None))

    def test_to_the_chalk(self):
        # Walker 0 stands on chalk and rests; walker 1 comes, whenever it steps.
        for many in range(2, 9):
            told = slow(ring(many), TO_CHALK, ((0, 1), (0,)), 400)
            self.looks_right(ring(many), TO_CHALK, ((0, 1), (0,)), told)
            self.assertEqual(told[0], "sure")
            self.assertEqual(sorted({(rank, helper) for whole, rank, helper in told[1]}),
                             [(rank, 1) for rank in range(many - 1)])
        whole = (((0, 0, 0), (1, 0, 0)), (0,))
        self.assertEqual(slow(ring(2), TO_CHALK, ((0, 1), (0,)), 1), ("sure", ((whole, 0, 1),)))

    def test_met_at_once_by_beat_and_dodged_by_the_slow(self):
        # Both ends of a lane of three come to the middle; but who comes first goes on.
        self.assertEqual(run(lane(3), ON, ((0, 2), ()), 9), ("met", 1))
        told = slow(lane(3), ON, ((0, 2), ()), 400)
        self.looks_right(lane(3), ON, ((0, 2), ()), told)
        self.assertEqual(told[0], "dodge")

    def test_who_waits_is_found(self):
        rows = (((0, (None, None, 1, None)), (0, "leave", 0)), ((0, (None, None, 2, None)), (0, "leave", None)))
        told = slow(lane(3), (("doors",), rows), ((0, 2), ()), 400)
        self.looks_right(lane(3), (("doors",), rows), ((0, 2), ()), told)
        self.assertEqual(told[0], "sure")
        self.assertEqual(len(told[1]), 3)

    def test_a_way_ahead_of_the_round(self):
        # Came is 0 at first and never again, so the beginning lies on no round.
        told = slow(ring(4), ON, ((0, 1), ()), 400)
        self.looks_right(ring(4), ON, ((0, 1), ()), told)
        self.assertEqual(told[0], "dodge")
        self.assertTrue(told[1])

    def test_a_round_needs_each_walker(self):
        # Walker 1 goes round its moods for ever while walker 0 rests; but when walker 0 steps, it comes.
        for many in range(1, 8):
            rows = [((mood, (None, None, 2, None)), ((mood + 1) % many, "leave", None)) for mood in range(many)]
            machine = (("doors",), (((0, (None, None, 1, None)), (0, "leave", 0)),) + tuple(rows))
            told = slow(lane(3), machine, ((0, 1), ()), 400)
            self.looks_right(lane(3), machine, ((0, 1), ()), told)
            self.assertEqual(told[0], "sure")
            self.assertEqual({(rank, helper) for whole, rank, helper in told[1]}, {(0, 0)})
            self.assertEqual(len(told[1]), many)

    def test_only_all_at_once_go_on(self):
        # Both exchange their rooms; whoever steps alone comes to the other.
        for many in range(1, 8):
            machine = ((), tuple(((mood, BLIND), ((mood + 1) % many, "leave", 0)) for mood in range(many)))
            told = slow(lane(2), machine, ((0, 1), ()), 400)
            self.looks_right(lane(2), machine, ((0, 1), ()), told)
            self.assertEqual(told[0], "dodge")
            self.assertEqual(set(told[1] + told[2]), {(0, 1)})


class Drawn(Slow):
    def test_against_all_rounds(self):
        dice = Dice(111)
        words = []
        for _ in range(500):
            web, machine, standing = drawn_case(dice)
            leads = come_to(web, machine, standing, 40)
            if leads is not None:
                told = slow(web, machine, standing, 400)
                self.looks_right(web, machine, standing, told)
                words.append(told[0])
                self.assertEqual(told[0], "dodge" if is_dodged(leads, len(standing[0])) else "sure")
        self.assertGreater(words.count("dodge"), 100)
        self.assertGreater(words.count("sure"), 30)

    def test_more_than_most_wholes(self):
        dice = Dice(112)
        counts = set()
        for _ in range(150):
            web, machine, standing = drawn_case(dice)
            leads = come_to(web, machine, standing, 401)
            many = 402 if leads is None else len(leads)
            counts.add(many)
            word = slow(web, machine, standing, 400)[0]
            self.assertEqual(word == "open", many > 400)
            for most in {0, 1, many - 1, many, many + 1, 400}:
                if 0 <= most <= 400:
                    told = slow(web, machine, standing, most)
                    self.assertEqual(told[0], "open" if many > most else word)
        self.assertGreater(len(counts), 20)

    def test_one_walker_to_several(self):
        dice = Dice(113)
        words = set()
        for many in range(1, 6):
            for k in range(16):
                web = drawn_web(dice, max(many, 2 + dice.roll(3)))
                machine = drawn_machine(dice, dice.pick(ALL_EYES), 1, dice.pick([("leave",), HANDS]), (None, 0), 3)
                standing = (tuple(range(many)), dice.some(range(len(web))))
                told = slow(web, machine, standing, 60)
                self.looks_right(web, machine, standing, told)
                words.add((many, told[0]))
        self.assertLessEqual({(1, "sure"), (2, "dodge"), (3, "dodge"), (4, "dodge"), (5, "dodge")}, words)

    def test_eight_walkers(self):
        every = tuple(range(8))
        told = slow(lane(8), REST, (every, ()), 400)
        self.looks_right(lane(8), REST, (every, ()), told)
        marks = ((), (((0, BLIND), (0, "mark", None)),))
        told = slow(lane(8), marks, (every, ()), 400)
        self.looks_right(lane(8), marks, (every, ()), told)
        self.assertEqual(told[0], "dodge")

    def test_rooms_numbered_otherwise(self):
        dice = Dice(114)
        for web in small_webs(3, 4)[::3] + [ring(4), lane(4)]:
            for _ in range(3):
                machine, standing = drawn_machine(dice, dice.pick(ALL_EYES), 1), drawn_standing(dice, web)
                told = slow(web, machine, standing, 100)
                for order in room_orders(web):
                    other = slow(renamed(web, order), machine, standing_otherwise(order, standing), 100)
                    self.assertEqual(other[0], told[0])
                    if told[0] == "sure":
                        self.assertEqual(len(other[1]), len(told[1]))


class Bounds(Slow):
    def test_just_as_many_wholes_as_most(self):
        # Both count by themselves: so many and one more moods of each, in all pairs.
        for many in (0, 1, 3, 18, 19):
            machine = count_to(many)
            wholes = (many + 1) ** 2
            self.assertEqual(slow(lane(2), machine, ((0, 1), ()), wholes)[0], "dodge")
            self.assertEqual(slow(lane(2), machine, ((0, 1), ()), wholes - 1), ("open", None))
            self.assertEqual(slow(lane(2), machine, ((0, 1), ()), 400)[0], "dodge")
        self.assertEqual(slow(lane(2), count_to(20), ((0, 1), ()), 400), ("open", None))

    def test_sure_with_just_as_many(self):
        for many in range(2, 9):
            self.assertEqual(slow(ring(many), TO_CHALK, ((0, 1), (0,)), many - 1)[0], "sure")
            self.assertEqual(slow(ring(many), TO_CHALK, ((0, 1), (0,)), many - 2), ("open", None))

    def test_a_long_way(self):
        """Walkers that wait for hundreds of beats: a way of hundreds of wholes."""
        eyes, rows = ("doors",), []
        for mood in range(150):
            rows.append(((mood, (None, None, 1, None)), (mood + 1, "leave", None)))
        rows.append(((150, (None, None, 1, None)), (150, "leave", 0)))
        machine = (eyes, tuple(rows))
        told = slow(lane(3), machine, ((0, 1), ()), 400)
        self.looks_right(lane(3), machine, ((0, 1), ()), told)
        self.assertEqual((told[0], len(told[1])), ("sure", 151))
        # Without the last row the one at the end waits for ever, behind a way of 150 choices at least.
        machine = (eyes, tuple(rows[:-1]))
        told = slow(lane(3), machine, ((0, 1), ()), 151)
        self.looks_right(lane(3), machine, ((0, 1), ()), told)
        self.assertEqual(told[0], "dodge")
        self.assertGreaterEqual(len(told[1]), 150)


class Whole(Slow):
    def test_of_a_standing_told_never_no_machine_is_sure(self):
        dice = Dice(115)
        found = 0
        for web in cover_webs()[:8] + small_webs(3, 4) + big_webs()[-4:]:
            for _ in range(30):
                standing = drawn_standing(dice, web)
                machine = drawn_machine(dice, dice.pick(ALL_EYES), 1, dice.pick([("leave",), HANDS]))
                if len(standing[0]) <= 5 and never(web, standing, is_quiet(machine, len(standing[0]))):
                    found += 1
                    self.assertIn(slow(web, machine, standing, 60)[0], ("dodge", "open"))
        self.assertGreater(found, 40)

    def test_where_it_is_sure_they_meet_by_run(self):
        dice = Dice(116)
        sure = 0
        for _ in range(400):
            web, machine, standing = drawn_case(dice)
            if slow(web, machine, standing, 100)[0] == "sure":
                sure += 1
                self.assertEqual(run(web, machine, standing, 400)[0], "met")
        self.assertGreater(sure, 25)

    def test_drawn_fair_rows_meet_where_it_is_sure(self):
        dice = Dice(117)
        sure = 0
        for _ in range(300):
            web, machine, standing = drawn_case(dice)
            if slow(web, machine, standing, 100)[0] == "sure":
                sure += 1
                many = len(standing[0])
                for _ in range(4):
                    # All walkers stand one by one, some more often: so it is fair if it is gone on with.
                    choices = []
                    for _ in range(120):
                        choices += [(k,) for k in dice.shuffled(range(many))] + [dice.pick(choices_of(many))]
                    self.assertTrue(any(is_met(whole) for whole in slow_walked(web, machine, standing, choices)))
        self.assertGreater(sure, 20)

    def test_gatherers_however_slow(self):
        dice = Dice(118)
        for web, standing in unlike_fields()[::3]:
            machine, beats = gatherer(((web, standing),))
            ends = [walker[0] for walker in walked(web, machine, standing, beats)[-1][0]]
            many = len(standing[0])
            left = [k for k in range(many) for _ in range(beats)]
            choices = []
            while left:
                choice = tuple(sorted({dice.pick(left) for _ in range(1 + dice.roll(many))}))
                for k in choice:
                    left.remove(k)
                choices.append(choice)
            told = slow_walked(web, machine, standing, tuple(choices))[-1]
            self.assertEqual([walker[0] for walker in told[0]], ends)
            self.assertIs(is_met(told), True)

    def test_gatherers_are_sure(self):
        words = []
        for web, (rooms, chalk) in unlike_fields()[::2]:
            for some in (rooms[:2], rooms[-3:]):
                machine, beats = gatherer(((web, (some, chalk)),))
                told = slow(web, machine, (some, chalk), 120)
                self.looks_right(web, machine, (some, chalk), told)
                words.append(told[0])
        self.assertLessEqual(set(words), {"sure", "open"})
        self.assertGreater(words.count("sure"), 40)


if __name__ == "__main__":
    unittest.main()
