import itertools
import unittest

from helper import (ALL_EYES, Dice, big_webs, by_order, changed, cover_webs, drawn_machine, drawn_standing,
                    drawn_web, is_told, in_list, in_pair, in_tuple, lifts, nested, other_kinds, room_orders, sets_of,
                    small_webs, standing_otherwise, strange_things)
from ringmeet.beats import is_met
from ringmeet.colours import colouring, is_colouring
from ringmeet.naming import renamed
from ringmeet.nevers import never, shows_never
from ringmeet.runs import walked
from ringmeet.standings import all_signs, chalk_signs
from ringmeet.webs import lane, ring


def all_standings(web):
    rooms = sets_of(len(web))
    return [(walkers, chalk) for walkers in rooms[1:] for chalk in rooms]


def some_standings(dice, web, many):
    return [drawn_standing(dice, web) for _ in range(many)] + [((0,), ()), (tuple(range(len(web))), ())]


def same_parts(one, other):
    """Whether two colourings have the same rooms of one colour."""
    return len(set(zip(one, other))) == len(set(one)) == len(set(other))


def asked(web, standing, quiet):
    """What never must tell, by the document's words."""
    colours = colouring(web, all_signs(web, standing))
    if len(set(colours)) < len(colours):
        return ("colours", colours)
    chalked = colouring(web, chalk_signs(web, standing[1]))
    pairs = [(i, j) for i, j in itertools.product(range(len(standing[0])), repeat=2)
             if i < j and chalked[standing[0][i]] == chalked[standing[0][j]]]
    return ("alike",) + min(pairs) + (chalked,) if quiet and pairs else None


def webs_to_ask():
    return small_webs(3, 6) + big_webs() + cover_webs() + [lane(k) for k in (1, 2, 4, 8)]


class Never(unittest.TestCase):
    def test_written_out(self):
        self.assertEqual(never(ring(4), ((0, 2), ()), False), ("colours", (0, 1, 0, 1)))
        self.assertEqual(never(ring(4), ((0, 2), ()), True), ("colours", (0, 1, 0, 1)))
        self.assertIsNone(never(ring(4), ((0, 1), ()), False))
        self.assertEqual(never(ring(4), ((0, 1), ()), True), ("alike", 0, 1, (0, 0, 0, 0)))
        self.assertIsNone(never(lane(3), ((0, 2), ()), True))
        self.assertIsNone(never(lane(3), ((0, 2), ()), False))

    def test_one_walker_is_never_told_never(self):
        for web in webs_to_ask():
            for room in range(len(web)):
                for chalk in ((), (0,), tuple(range(len(web)))):
                    for quiet in (False, True):
                        self.assertIsNone(never(web, ((room,), chalk), quiet))

    def test_walkers_and_chalk_part_what_is_alike_without(self):
        self.assertEqual(colouring(ring(4), (0,) * 4), (0,) * 4)
        # The chalk of one room parts the walkers; chalk at both doesn't.
        self.assertIsNone(never(ring(4), ((0, 2), (0,)), False))
        self.assertIsNone(never(ring(4), ((0, 2), (1,)), True))
        self.assertEqual(never(ring(4), ((0, 2), (0, 2)), False), ("colours", (0, 1, 0, 1)))
        self.assertEqual(never(ring(4), ((0, 2), (0, 1, 2, 3)), True), ("colours", (0, 1, 0, 1)))
        self.assertEqual(never(ring(4), ((0, 1), (0, 2)), True), None)
        self.assertEqual(never(ring(4), ((0, 1, 2), (0, 2)), True), ("alike", 0, 2, (0, 1, 0, 1)))
        self.assertIsNone(never(ring(4), ((0, 1, 2), (0, 2)), False))
        self.assertEqual(never(ring(6), ((0, 1, 3, 4), ()), False), ("colours", (0, 1, 2, 0, 1, 2)))
        self.assertIsNone(never(ring(6), ((0, 1, 3, 4), (5,)), True))

    def test_the_first_pair_of_several(self):
        self.assertEqual(never(ring(6), ((0, 1, 2, 4), (0, 3)), True), ("alike", 1, 3, (0, 1, 2, 0, 1, 2)))
        self.assertEqual(never(ring(6), ((0, 1, 2, 3, 4), (0, 3)), True), ("alike", 0, 3, (0, 1, 2, 0, 1, 2)))
        self.assertEqual(never(ring(6), ((1, 2, 4, 5), (0,)), True), None)
        self.assertEqual(never(ring(8), ((0, 1, 2, 5, 6), (3, 7)), True), ("alike", 1, 3, (0, 1, 2, 3, 0, 1, 2, 3)))

    def test_by_the_documents_words(self):
        dice = Dice(31)
        told = set()
        for web in webs_to_ask():
            for standing in all_standings(web) if len(web) < 4 else some_standings(dice, web, 40):
                for quiet in (False, True):
                    paper = never(web, standing, quiet)
                    self.assertEqual(paper, asked(web, standing, quiet))
                    self.assertTrue(is_told(paper))
                    told.add((paper and paper[0], quiet))
        self.assertEqual(told, {(None, False), (None, True), ("colours", False), ("colours", True), ("alike", True)})

    def test_rooms_numbered_otherwise(self):
        dice = Dice(32)
        for web in small_webs(3, 4) + big_webs() + cover_webs():
            for standing in some_standings(dice, web, 6):
                for order in room_orders(web):
                    other, moved = renamed(web, order), standing_otherwise(order, standing)
                    for quiet in (False, True):
                        one, two = never(web, standing, quiet), never(other, moved, quiet)
                        self.assertEqual(one and one[0], two and two[0])
                        if one:
                            self.assertTrue(same_parts(by_order(order, one[-1]), two[-1]))


class NeverHolds(unittest.TestCase):
    def never_met(self, web, machine, standing, beats):
        self.assertFalse(any(is_met(whole) for whole in walked(web, machine, standing, beats)))

    def test_by_machines_of_any_eyes(self):
        dice = Dice(33)
        found = 0
        for web in cover_webs() + big_webs():
            standings = [standing for standing in some_standings(dice, web, 60) if never(web, standing, False)]
            for standing in standings[:10]:
                found += 1
                for eyes in ALL_EYES:
                    self.never_met(web, drawn_machine(dice, eyes, 1 + dice.roll(3)), standing, 12)
        self.assertGreater(found, 60)

    def test_by_quiet_machines(self):
        dice = Dice(34)
        found = 0
        for web in cover_webs() + big_webs():
            papers = [(standing, never(web, standing, True)) for standing in some_standings(dice, web, 60)]
            for standing in [standing for standing, paper in papers if paper and paper[0] == "alike"][:10]:
                found += 1
                for eyes in ALL_EYES:
                    if "others" not in eyes or len(standing[0]) <= 2:
                        self.never_met(web, drawn_machine(dice, eyes, 1 + dice.roll(3), ("leave",)), standing, 12)
        self.assertGreater(found, 60)

    def test_whatever_paper_is_taken(self):
        dice = Dice(35)
        taken = 0
        for web in small_webs(3, 4) + [ring(3), ring(4)]:
            for standing in all_standings(web):
                for colours in set(itertools.product(range(2), repeat=len(web))):
                    if shows_never(web, standing, False, ("colours", colours)):
                        taken += 1
                        self.never_met(web, drawn_machine(dice, dice.pick(ALL_EYES), 2), standing, 8)
        self.assertGreater(taken, 40)

    def test_met_where_it_is_not_told(self):
        marks = ("chalk",), (((0, (None, 0, None, None)), (0, "leave", 0)),)
        self.assertIsNone(never(ring(4), ((0, 2), (0,)), True))
        self.assertTrue(is_met(walked(ring(4), marks, ((0, 2), (0,)), 2)[-1]))


def others_names(colours):
    """The same colouring, called by other whole numbers."""
    yield tuple(-colour for colour in colours)
    yield tuple(5 + 3 * colour for colour in colours)
    yield tuple(10 ** 50 - colour for colour in colours)
    yield tuple((7, 0, 4, -1, 9, 2, 1, 3)[colour] for colour in colours)


class ShowsNever(unittest.TestCase):
    def takes(self, web, standing, quiet, thing, asked):
        self.assertIs(shows_never(web, standing, quiet, thing), asked, (web, standing, quiet, thing))

    def test_what_never_tells(self):
        dice = Dice(41)
        for web in webs_to_ask():
            for standing in all_standings(web) if len(web) < 3 else some_standings(dice, web, 20):
                for quiet in (False, True):
                    paper = never(web, standing, quiet)
                    self.takes(web, standing, quiet, paper, paper is not None)
                    self.takes(web, standing, True, paper, paper is not None)
                    self.takes(web, standing, False, paper, paper is not None and paper[0] == "colours")

    def test_other_numbers(self):
        for standing, quiet in ((((0, 3), ()), False), (((0, 1), (0, 3)), True), (((0, 1, 4), ()), True)):
            paper = never(ring(6), standing, quiet)
            for colours in others_names(colouring(ring(6), all_signs(ring(6), standing))):
                self.takes(ring(6), standing, quiet, ("colours", colours), len(set(colours)) < 6)
            if paper and paper[0] == "alike":
                for colours in others_names(paper[3]):
                    self.takes(ring(6), standing, True, paper[:3] + (colours,), True)

    def test_all_colourings_of_small_webs(self):
        for web in small_webs(3, 4) + [ring(4)]:
            for standing in all_standings(web) if len(web) < 4 else [((0, 2), ()), ((0, 1), ()), ((0, 2), (0, 2)),
                                                                      ((0, 1, 2, 3), ()), ((0, 1, 2), (0, 2))]:
                for colours in itertools.product(range(len(web)), repeat=len(web)):
                    twice = len(set(colours)) < len(web)
                    good = is_colouring(web, all_signs(web, standing), colours)
                    for quiet in (False, True):
                        self.takes(web, standing, quiet, ("colours", colours), good and twice)
                    good = is_colouring(web, chalk_signs(web, standing[1]), colours)
                    for i, j in itertools.product(range(-1, len(standing[0]) + 1), repeat=2):
                        alike = (good and 0 <= i < j < len(standing[0])
                                 and colours[standing[0][i]] == colours[standing[0][j]])
                        self.takes(web, standing, True, ("alike", i, j, colours), alike)
                        self.takes(web, standing, False, ("alike", i, j, colours), False)

    def test_finer_colourings_than_the_coarsest(self):
        self.assertEqual(never(ring(8), ((0, 2, 4, 6), ()), False), ("colours", (0, 1, 0, 1, 0, 1, 0, 1)))
        self.takes(ring(8), ((0, 2, 4, 6), ()), False, ("colours", (0, 1, 2, 3, 0, 1, 2, 3)), True)
        self.takes(ring(8), ((0, 2, 4, 6), ()), False, ("colours", (0, 1, 2, 3, 4, 5, 6, 7)), False)
        self.takes(ring(8), ((0, 2, 4, 6), ()), False, ("colours", (0, 0, 0, 0, 0, 0, 0, 0)), False)
        self.takes(ring(8), ((0, 1, 4), ()), True, ("alike", 0, 2, (0, 1, 2, 3, 0, 1, 2, 3)), True)
        self.takes(ring(8), ((0, 1, 4), ()), True, ("alike", 0, 1, (0, 1, 2, 3, 0, 1, 2, 3)), False)
        self.takes(ring(8), ((0, 1, 4), ()), True, ("alike", 0, 1, (0,) * 8), True)
        self.takes(ring(8), ((0, 1, 4), ()), True, ("alike", 0, 1, tuple(range(8))), False)

    def test_colourings_of_other_signs(self):
        # Colourings of the web alone, of the chalk alone where all signs are asked, and of all signs for the chalk.
        self.takes(ring(4), ((0, 1), ()), False, ("colours", (0, 0, 0, 0)), False)
        self.takes(ring(4), ((0, 1), ()), False, ("colours", (0, 1, 0, 1)), False)
        self.takes(ring(4), ((0, 2), (0,)), False, ("colours", (0, 1, 0, 1)), False)
        self.takes(ring(4), ((0, 1), (0, 2)), False, ("colours", (0, 1, 0, 1)), False)
        self.takes(ring(4), ((0, 1), (0, 2)), True, ("alike", 0, 1, (0, 0, 0, 0)), False)
        self.takes(ring(4), ((0, 2), (0, 1)), True, ("alike", 0, 1, (0, 1, 0, 1)), False)
        self.takes(ring(4), ((0, 2), ()), True, ("alike", 0, 1, (0, 1, 0, 1)), True)

    def test_colourings_of_another_web(self):
        self.takes(ring(4), ((0, 2), ()), False, ("colours", (0, 1, 0)), False)
        self.takes(ring(4), ((0, 2), ()), False, ("colours", (0, 1, 0, 1, 0)), False)
        self.takes(lane(4), ((0, 2), ()), False, ("colours", (0, 1, 0, 1)), False)
        self.takes(ring(4), ((0, 2), ()), True, ("alike", 0, 1, (0, 0, 0, 0, 0)), False)
        self.takes(ring(4), ((0, 2), ()), True, ("alike", 0, 1, ()), False)

    def test_walkers_numbers(self):
        standing = ((1, 2, 5), ())
        zeros = (0,) * 6
        for i, j in itertools.product((-3, -2, -1, 0, 1, 2, 3, 5, 10 ** 30), repeat=2):
            self.takes(ring(6), standing, True, ("alike", i, j, zeros), 0 <= i < j < 3)
            self.takes(ring(6), standing, False, ("alike", i, j, zeros), False)

    def test_truths_in_the_place_of_numbers(self):
        zeros = (0,) * 6
        self.takes(ring(6), ((1, 2, 5), ()), True, ("alike", 0, 1, zeros), True)
        for i, j in ((False, 1), (0, True), (False, True), (True, 2), (None, 1), (0, None), ("0", 1), ((0,), 1)):
            self.takes(ring(6), ((1, 2, 5), ()), True, ("alike", i, j, zeros), False)
        for truth in (True, False):
            for k in range(6):
                self.takes(ring(6), ((1, 2, 5), ()), True, ("alike", 0, 1, zeros[:k] + (truth,) + zeros[k + 1:]), False)
        self.takes(ring(4), ((0, 2), ()), False, ("colours", (False, True, False, True)), False)
        self.takes(ring(4), ((0, 2), ()), False, ("colours", (0, True, 0, True)), False)

    def test_other_heads_and_lengths(self):
        colours = (0, 1, 0, 1)
        for thing in (("colour", colours), ("Colours", colours), (b"colours", colours), ("alike", colours),
                      ("never", colours), (0, colours), (None, colours), ("colours",), ("colours", colours, None),
                      ("colours", 0, 1, colours), colours, "colours", ("colours", (colours,)), (("colours", colours),),
                      ("alike", 0, 1), ("alike", 0, 1, colours, ()), ("never", 0, 1, colours), ("", 0, 1, colours),
                      (b"alike", 0, 1, colours), ("alike", colours, 0, 1), ("alike", (0, 1), colours), None, ()):
            for quiet in (False, True):
                self.takes(ring(4), ((0, 2), ()), quiet, thing, False)

    def test_other_kinds(self):
        for web, standing, quiet in ((ring(4), ((0, 2), ()), False), (ring(4), ((0, 2), ()), True),
                                     (ring(6), ((0, 1, 3), ()), True), (lifts()[0][0], ((1, 3), ()), True)):
            paper = never(web, standing, quiet)
            self.takes(web, standing, quiet, paper, True)
            for thing in changed(paper, other_kinds):
                self.takes(web, standing, quiet, thing, False)

    def test_things_of_all_kinds(self):
        zeros = (0, 0, 0, 0)
        for quiet in (False, True):
            for thing in strange_things():
                for other in (thing, (thing, zeros), ("colours", thing), ("alike", 0, 1, thing), (thing, 0, 1, zeros)):
                    self.takes(ring(4), ((0, 2), ()), quiet, other, False)
                # The whole numbers 0 and 1 are among the things, and are walkers' numbers in their places.
                whole = type(thing) is int
                self.takes(ring(4), ((0, 2), ()), quiet, ("alike", thing, 1, zeros), quiet and whole and thing == 0)
                self.takes(ring(4), ((0, 2), ()), quiet, ("alike", 0, thing, zeros), quiet and whole and thing == 1)

    def test_nested_forty_deep(self):
        for core in ((), 0, None, "colours", [], {}):
            for wrap in (in_tuple, in_list, in_pair):
                deep = nested(38 if wrap is not in_pair else 18, wrap, core)
                for thing in (deep, (deep, deep), ("colours", deep), ("alike", 0, 1, deep), ("alike",) + (deep,) * 3):
                    for quiet in (False, True):
                        self.takes(ring(4), ((0, 2), ()), quiet, thing, False)

    def test_of_drawn_webs(self):
        dice = Dice(42)
        for k in range(60):
            web = drawn_web(dice, 1 + k % 8)
            for standing in some_standings(dice, web, 5):
                colours = colouring(web, all_signs(web, standing))
                self.takes(web, standing, False, ("colours", colours), len(set(colours)) < len(web))


class QuietMachinesAlone(unittest.TestCase):
    def test_a_machine_that_marks_may_bring_together_whom_quiet_ones_never_do(self):
        web, standing = ring(4), ((0, 1), ())
        self.assertEqual(never(web, standing, True)[0], "alike")
        self.assertIsNone(never(web, standing, False))
        white, chalked = (None, 0, None, None), (None, 1, None, None)
        # Both mark and go on; who finds no chalk is the one ahead, and goes back.
        rows = (((0, white), (1, "mark", 0)), ((1, white), (2, "leave", 1)), ((1, chalked), (1, "leave", None)))
        self.assertTrue(is_met(walked(web, (("chalk",), rows), standing, 2)[-1]))


if __name__ == "__main__":
    unittest.main()
