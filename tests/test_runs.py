import unittest

from helper import (ALL_EYES, BLIND, EYES, Dice, big_webs, drawn_machine, drawn_standing, drawn_web, is_told,
                    room_orders, small_webs, standing_otherwise)
from ringmeet.beats import beat, begun, is_met
from ringmeet.naming import renamed
from ringmeet.runs import most_chalk, run, walked
from ringmeet.webs import lane, ring

REST = ((), ())
ON = ((), (((0, BLIND), (0, "leave", 0)),))
# Goes on where there is no chalk, stays where there is.
TO_CHALK = (("chalk",), (((0, (None, 0, None, None)), (0, "leave", 0)),))


def count_to(many):
    """A machine that counts its moods up to so many, and rests then."""
    return (), tuple(((mood, BLIND), (mood + 1, "leave", None)) for mood in range(many))


def in_ring_of_moods(many):
    return (), tuple(((mood, BLIND), ((mood + 1) % many, "leave", None)) for mood in range(many))


def asked(web, machine, standing, most):
    """What run must tell, by the document's words over all wholes."""
    wholes = [begun(standing)]
    for _ in range(most):
        wholes.append(beat(web, machine, wholes[-1]))
    met = [t for t, whole in enumerate(wholes) if is_met(whole)]
    again = [t for t, whole in enumerate(wholes) if whole in wholes[:t]]
    if met and not (again and again[0] < met[0]):
        return ("met", met[0])
    if again:
        return ("round", wholes.index(wholes[again[0]]), again[0])
    return ("open", most)


def cases():
    dice = Dice(11)
    webs = small_webs(3, 4) + big_webs() + [drawn_web(dice, 1 + k % 8) for k in range(40)]
    for k, web in enumerate(webs):
        for n in range(2):
            yield web, drawn_machine(dice, ALL_EYES[(2 * k + n) % 16], 1 + dice.roll(3)), drawn_standing(dice, web)


class Walked(unittest.TestCase):
    def test_no_beat_and_one(self):
        standing = ((0, 2), (1,))
        self.assertEqual(walked(ring(4), ON, standing, 0), (begun(standing),))
        self.assertEqual(walked(ring(4), ON, standing, 1), (begun(standing), (((1, 2, 0), (3, 2, 0)), (1,))))

    def test_four_hundred_beats(self):
        wholes = walked(ring(8), ON, ((0, 3), ()), 400)
        self.assertEqual(len(wholes), 401)
        for t, whole in enumerate(wholes):
            self.assertEqual(whole, (((t % 8, 2 if t else 0, 0), ((3 + t) % 8, 2 if t else 0, 0)), ()))

    def test_each_whole_is_a_beat_behind_the_one_ahead(self):
        for web, machine, standing in cases():
            wholes = walked(web, machine, standing, 12)
            self.assertTrue(is_told(wholes))
            self.assertEqual(len(wholes), 13)
            self.assertEqual(wholes[0], begun(standing))
            for one, other in zip(wholes, wholes[1:]):
                self.assertEqual(other, beat(web, machine, one))

    def test_fewer_beats_are_the_first_of_more(self):
        for web, machine, standing in cases():
            wholes = walked(web, machine, standing, 12)
            for beats in (0, 1, 5, 11):
                self.assertEqual(walked(web, machine, standing, beats), wholes[:beats + 1])

    def test_walks_on_when_met(self):
        wholes = walked(ring(3), ON, ((1,), ()), 4)
        self.assertEqual([whole[0][0][0] for whole in wholes], [1, 2, 0, 1, 2])


class Run(unittest.TestCase):
    def test_met_at_the_beginning(self):
        for most in (0, 1, 400):
            for machine in (REST, ON, TO_CHALK):
                self.assertEqual(run(ring(5), machine, ((2,), ()), most), ("met", 0))
        self.assertEqual(run(lane(1), ON, ((0,), (0,)), 0), ("met", 0))

    def test_met_at_just_most_beats_and_one_beyond(self):
        for many in range(2, 9):
            for standing, t in ((((0, many - 1), (0,)), 1), (((0, 1), (0,)), many - 1)):
                self.assertEqual(run(ring(many), TO_CHALK, standing, t), ("met", t))
                self.assertEqual(run(ring(many), TO_CHALK, standing, t - 1), ("open", t - 1))
                self.assertEqual(run(ring(many), TO_CHALK, standing, 400), ("met", t))

    def test_round_at_once(self):
        self.assertEqual(run(ring(4), REST, ((0, 1), ()), 0), ("open", 0))
        self.assertEqual(run(ring(4), REST, ((0, 1), ()), 1), ("round", 0, 1))
        self.assertEqual(run(ring(4), REST, ((0, 1), ()), 400), ("round", 0, 1))

    def test_round_at_just_most_beats_and_one_beyond(self):
        for many in (2, 3, 8):
            # Came is 0 at first and 2 ever after, so the first whole isn't come back to.
            self.assertEqual(run(ring(many), ON, ((0, 1), ()), many + 1), ("round", 1, many + 1))
            self.assertEqual(run(ring(many), ON, ((0, 1), ()), many), ("open", many))
        for many in (1, 2, 7, 399, 400):
            self.assertEqual(run(lane(2), in_ring_of_moods(many), ((0, 1), ()), many), ("round", 0, many))
            self.assertEqual(run(lane(2), in_ring_of_moods(many), ((0, 1), ()), many - 1), ("open", many - 1))
        for many in (0, 1, 5, 398, 399):
            self.assertEqual(run(lane(2), count_to(many), ((0, 1), ()), many + 1), ("round", many, many + 1))
            self.assertEqual(run(lane(2), count_to(many), ((0, 1), ()), many), ("open", many))

    def test_four_hundred_beats(self):
        self.assertEqual(run(lane(2), count_to(400), ((0, 1), ()), 400), ("open", 400))
        self.assertEqual(run(lane(2), in_ring_of_moods(401), ((0, 1), ()), 400), ("open", 400))

        def late(beats):
            """Counts, and goes by door 0 at the last beat; who is in a room of two doors stays."""
            rows = [((mood, (None, None, doors, None)), (mood + 1, "leave", None))
                    for mood in range(beats) for doors in (1, 2)]
            rows[-2] = (rows[-2][0], (beats, "leave", 0))
            return ("doors",), tuple(rows)

        self.assertEqual(run(lane(3), late(400), ((0, 1), ()), 400), ("met", 400))
        self.assertEqual(run(lane(3), late(400), ((0, 1), ()), 399), ("open", 399))

    def test_met_ahead_of_round(self):
        # Walks to the end and stays: the whole comes again a beat behind the meeting.
        self.assertEqual(run(ring(4), TO_CHALK, ((0, 2), (0,)), 400), ("met", 2))

    def test_moods_count_in_a_round(self):
        rows = (((0, BLIND), (1, "leave", None)), ((1, BLIND), (0, "leave", None)))
        self.assertEqual(run(lane(2), ((), rows), ((0, 1), ()), 9), ("round", 0, 2))

    def test_chalk_counts_in_a_round(self):
        rows = (((0, (None, 0, None, None)), (0, "mark", None)), ((0, (None, 1, None, None)), (0, "wipe", None)))
        self.assertEqual(run(lane(2), (("chalk",), rows), ((0, 1), ()), 9), ("round", 0, 2))
        self.assertEqual(run(lane(2), ((), (((0, BLIND), (0, "mark", None)),)), ((0, 1), ()), 9), ("round", 1, 2))

    def test_what_they_came_by_counts_in_a_round(self):
        pair = (((1, 0),), ((0, 0),))
        # Both exchange their rooms; the third whole is the first one but for what they came by.
        self.assertEqual(run(pair, ON, ((0, 1), ()), 9), ("round", 1, 3))

    def test_by_the_documents_words(self):
        told = set()
        for web, machine, standing in cases():
            for most in (0, 1, 2, 3, 5, 30):
                answer = run(web, machine, standing, most)
                self.assertTrue(is_told(answer))
                self.assertEqual(answer, asked(web, machine, standing, most))
                told.add(answer[0])
        self.assertEqual(told, {"met", "round", "open"})

    def test_rooms_numbered_otherwise(self):
        dice = Dice(12)
        for web in big_webs():
            machine, standing = drawn_machine(dice, dice.pick(ALL_EYES), 2), drawn_standing(dice, web)
            for order in room_orders(web):
                other = renamed(web, order)
                moved = standing_otherwise(order, standing)
                self.assertEqual(run(other, machine, moved, 60), run(web, machine, standing, 60))
                self.assertEqual(most_chalk(other, machine, moved, 20), most_chalk(web, machine, standing, 20))
                for one, two in zip(walked(web, machine, standing, 20), walked(other, machine, moved, 20)):
                    self.assertEqual(sorted((order[room], came, mood) for room, came, mood in one[0]), sorted(two[0]))
                    self.assertEqual(standing_otherwise(order, (one[1],)), (two[1],))


class MostChalk(unittest.TestCase):
    def test_no_beat(self):
        for chalk in ((), (1,), (0, 2, 3)):
            self.assertEqual(most_chalk(ring(4), ((), (((0, BLIND), (0, "mark", 0)),)), ((0, 2), chalk), 0), len(chalk))

    def test_marks_all_rooms(self):
        machine = (), (((0, BLIND), (0, "mark", 0)),)
        for beats in range(12):
            self.assertEqual(most_chalk(ring(8), machine, ((0,), ()), beats), min(beats, 8))
            self.assertEqual(most_chalk(ring(8), machine, ((0, 4), ()), beats), min(2 * beats, 8))
        self.assertEqual(most_chalk(ring(8), machine, ((0,), ()), 400), 8)

    def test_a_room_that_is_chalked_and_wiped_on_the_way(self):
        machine = (), (((0, BLIND), (1, "mark", None)), ((1, BLIND), (2, "wipe", 0)))
        for beats, many in ((0, 0), (1, 1), (2, 1), (3, 1), (9, 1)):
            self.assertEqual(most_chalk(ring(4), machine, ((0,), ()), beats), many)
            self.assertEqual(most_chalk(ring(4), machine, ((0, 2), (3,)), beats), 1 + 2 * many)
        self.assertEqual(walked(ring(4), machine, ((0,), ()), 9)[-1][1], ())

    def test_wiped_from_the_first_beat_on(self):
        machine = (), (((0, BLIND), (0, "wipe", 0)),)
        for beats in (0, 1, 5, 400):
            self.assertEqual(most_chalk(ring(3), machine, ((0,), (0, 1, 2)), beats), 3)

    def test_of_drawn_machines(self):
        for web, machine, standing in cases():
            for beats in (0, 1, 7):
                told = most_chalk(web, machine, standing, beats)
                self.assertTrue(is_told(told))
                self.assertEqual(told, max(len(whole[1]) for whole in walked(web, machine, standing, beats)))

    def test_eyes_of_all_kinds(self):
        machine = EYES, (((0, (0, 0, 2, 0)), (0, "mark", 0)), ((0, (2, 0, 2, 0)), (0, "mark", None)))
        self.assertEqual(most_chalk(ring(4), machine, ((0,), ()), 9), 2)


if __name__ == "__main__":
    unittest.main()
