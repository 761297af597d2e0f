import itertools
import unittest

from helper import (ALL_EYES, ALONE, BLIND, EYES, HANDS, LANE, LONG, NEAR, PAIR, STEPS, TURN, Dice, Seeker, TooMany,
                    drawn_errand, fitting_machines, how_many, is_told, search, small_errands, wanted_keys)
from ringmeet.beats import is_met
from ringmeet.booklooks import shows_none
from ringmeet.errands import does, fields_of, fits, is_errand
from ringmeet.machines import is_machine
from ringmeet.nevers import never
from ringmeet.runs import walked
from ringmeet.seeking import sought
from ringmeet.webs import lane, ring

ONE, TWO = (None, None, 1, None), (None, None, 2, None)


def keys_on_the_way(errand, machine):
    """The keys wanted until all fields are met as asked, None where one isn't."""
    fields, eyes, hands, steps, moods, chalk, beats = errand
    keys = []
    for web, standing in fields:
        wholes = walked(web, machine, standing, beats)
        met = [t for t, whole in enumerate(wholes) if is_met(whole)]
        if not met or max(len(whole[1]) for whole in wholes[:met[0] + 1]) > chalk:
            return None
        keys += [key for whole in wholes[:met[0]] for key in wanted_keys(web, eyes, whole)]
    return keys if set(keys) <= set(dict(machine[1])) else None


def rows_in(book):
    """How many rows a book asks."""
    return 1 + sum(rows_in(branch) for branch in book[3]) if book[0] == "ask" else 0


class Sought(unittest.TestCase):
    def looks_right(self, errand, told):
        """Look at all that is promised of what is told, but for which machine and which book."""
        self.assertTrue(is_told(told))
        self.assertEqual(len(told), 2)
        if told[0] == "does":
            self.assertIs(is_machine(told[1]), True)
            self.assertIs(fits(errand, told[1]), True)
            self.assertEqual(does(errand, told[1])[0], "does")
            keys = keys_on_the_way(errand, told[1])
            self.assertIsNotNone(keys)
            self.assertEqual(sorted(set(keys)), [key for key, deed in told[1][1]])
        else:
            self.assertEqual(told[0], "none")
            self.assertIs(shows_none(errand, told[1]), True)

    def with_most(self, errand, told, asked):
        """Look at what is told with just as many rows as are asked, one fewer, none, and more."""
        for most in {0, 1, asked - 1, asked, asked + 1, 600}:
            if 0 <= most <= 600:
                self.assertEqual(sought(errand, most), told if asked <= most else ("open", None), (errand, most))


class SmallErrands(Sought):
    def test_the_very_thing_that_the_search_comes_to(self):
        for errand in small_errands():
            seeker = Seeker(errand)
            told = seeker.told()
            self.looks_right(errand, sought(errand, 600))
            self.with_most(errand, told, seeker.asked)

    def test_against_all_fitting_machines(self):
        words = []
        for errand in small_errands():
            if how_many(errand) <= 5000:
                done = any(keys_on_the_way(errand, machine) is not None for machine in fitting_machines(errand))
                words.append(sought(errand, 600)[0])
                self.assertEqual(words[-1], "does" if done else "none", errand)
        self.assertGreater(words.count("does"), 3)
        self.assertGreater(words.count("none"), 8)

    def test_a_book_asks_each_row_counted(self):
        found = 0
        for errand in small_errands():
            word, book = sought(errand, 600)
            if word == "none":
                found += 1
                many = rows_in(book)
                self.assertEqual(sought(errand, many), ("none", book))
                if many:
                    self.assertEqual(sought(errand, many - 1), ("open", None))
        self.assertGreater(found, 10)


class DrawnErrands(Sought):
    def test_the_very_thing_that_the_search_comes_to(self):
        dice = Dice(81)
        words = []
        for _ in range(240):
            errand = drawn_errand(dice)
            self.assertIs(is_errand(errand), True)
            seeker = Seeker(errand, 80)
            try:
                told = seeker.told()
            except TooMany:
                self.assertEqual(sought(errand, 80), ("open", None))
                words.append("open")
                continue
            words.append(told[0])
            self.looks_right(errand, told)
            self.with_most(errand, told, seeker.asked)
        for word in ("open", "does", "none"):
            self.assertGreater(words.count(word), 15)

    def test_against_all_fitting_machines(self):
        dice = Dice(82)
        words = []
        while len(words) < 150:
            errand = drawn_errand(dice)
            if how_many(errand) <= 700 and not any(never(*field, False) for field in errand[0]):
                done = any(keys_on_the_way(errand, machine) is not None for machine in fitting_machines(errand))
                words.append(sought(errand, 600)[0])
                self.assertEqual(words[-1], "does" if done else "none", errand)
        self.assertGreater(words.count("does"), 15)
        self.assertGreater(words.count("none"), 15)


class WrittenOut(Sought):
    def test_one_row(self):
        errand = ((LANE,), (), ("leave",), (None, 0), 1, 0, 3)
        self.assertEqual(sought(errand, 1), ("does", ((), (((0, BLIND), (0, "leave", 0)),))))
        self.assertEqual(sought(errand, 0), ("open", None))
        errand = ((LANE,), (), ("leave",), (None, 1), 1, 0, 3)
        self.assertEqual(sought(errand, 1), ("none", ("ask", 0, BLIND, (("fails", 0), ("fails", 0)))))
        self.assertEqual(sought(errand, 0), ("open", None))

    def test_deeds_in_their_order(self):
        # All of hands and steps do it: the first of each is taken.
        for hands in (HANDS, ("mark", "wipe"), ("wipe",)):
            for steps in ((0,), (0, 1, 2, 3), (0, 3)):
                errand = ((LANE,), (), hands, steps, 3, 8, 3)
                self.assertEqual(sought(errand, 1), ("does", ((), (((0, BLIND), (0, hands[0], steps[0])),))))

    def test_the_first_deed_by_which_all_goes_well(self):
        # Marking is too much chalk; who stays doesn't come.
        errand = ((LANE,), (), ("mark", "wipe"), (None, 0), 1, 1, 3)
        self.assertEqual(sought(errand, 1), ("does", ((), (((0, BLIND), (0, "wipe", 0)),))))

    def test_a_new_mood_behind_all_deeds_of_the_old_one(self):
        # From the ends of a lane of four two steps on are three rooms asked; who goes on twice passes the other.
        errand = ((LONG,), ("doors",), ("leave",), (None, 0, 1), 2, 0, 4)
        seeker = Seeker(errand)
        told = seeker.told()
        self.assertEqual(sought(errand, 600), told)
        self.with_most(errand, told, seeker.asked)

    def test_the_least_beat_then_the_least_walker(self):
        # At first walker 0 stands at an end, walker 1 in the middle: their rows are asked in this order.
        errand = ((NEAR,), ("doors",), ("leave",), (None,), 1, 0, 2)
        self.assertEqual(sought(errand, 600), ("none", ("ask", 0, ONE, (("ask", 0, TWO, (("fails", 0),)),))))
        turned = (((lane(3), ((1, 2), ())),),) + errand[1:]
        self.assertEqual(sought(turned, 600), ("none", ("ask", 0, TWO, (("ask", 0, ONE, (("fails", 0),)),))))
        # The row of a later beat of walker 0 waits until walker 1's first is there.
        rows = sought(((NEAR,), ("came", "doors"), ("leave",), (1,), 1, 0, 2), 600)
        first, second = (0, None, 1, None), (0, None, 2, None)
        self.assertEqual((rows[1][2], rows[1][3][0][2]), (first, second))

    def test_field_by_field(self):
        middle = (lane(4), ((1, 2), ()))
        errand = ((LANE, middle), ("came", "doors"), ("leave",), (0,), 1, 0, 3)
        # The first field wants one row; then beat by beat of the second one, walker by walker.
        sights = [(0, None, 1, None), (0, None, 2, None), (1, None, 1, None), (2, None, 2, None), (1, None, 2, None)]
        book = ("fails", 1)
        for sight in sights[::-1]:
            book = ("ask", 0, sight, (book,))
        self.assertEqual(sought(errand, 5), ("none", book))
        # The other way about the row of the end is wanted a beat later, and the other field isn't come to.
        book = ("fails", 0)
        for sight in sights[:0:-1]:
            book = ("ask", 0, sight, (book,))
        self.assertEqual(sought(((middle, LANE),) + errand[1:], 4), ("none", book))


class Fields(Sought):
    def test_a_field_that_never_meets_at_any_place(self):
        paper = never(*PAIR, False)
        for many in range(1, 7):
            for at in range(many):
                fields = tuple(PAIR if k == at else LANE for k in range(many))
                for most in (0, 600):
                    told = sought((fields, EYES, HANDS, STEPS, 3, 8, 40), most)
                    self.assertEqual(told, ("none", ("never", at, paper)))
                twice = fields[:at + 1] + (PAIR,) * (many - at - 1)
                self.assertEqual(sought((twice, (), ("mark",), (0,), 1, 8, 40), 0), ("none", ("never", at, paper)))

    def test_quiet_papers_just_where_the_machines_are_quiet(self):
        for eyes in ALL_EYES:
            for hands in (("leave",), ("mark",), ("wipe",), ("leave", "mark"), HANDS):
                for field, at in itertools.product((TURN, (ring(5), ((0, 1, 2), ()))), range(2)):
                    fields = (LANE,) * at + (field,)
                    errand = (fields, eyes, hands, (None,), 1, 8, 2)
                    quiet = hands == ("leave",) and ("others" not in eyes or len(field[1][0]) == 2)
                    paper = never(*field, True)
                    self.assertEqual(paper[0], "alike")
                    told = sought(errand, 600)
                    self.assertEqual(told, ("none", ("never", at, paper)) if quiet else search(errand))
                    self.assertEqual(told[1][0] == "never", quiet)
                    self.assertIs(shows_none(errand, told[1]), True)

    def test_papers_are_asked_ahead_of_fields_that_fail_at_once(self):
        chalked = (lane(3), ((0, 2), (0, 1)))
        errand = ((chalked, PAIR), (), ("leave",), (0,), 1, 0, 3)
        self.assertEqual(sought(errand, 0)[1][:2], ("never", 1))
        self.assertEqual(sought((errand[0][:1],) + errand[1:], 0), ("none", ("fails", 0)))

    def test_fields_that_are_met_at_the_beginning(self):
        for many in (1, 6):
            self.assertEqual(sought(((ALONE,) * many, EYES, HANDS, STEPS, 3, 1, 0), 0), ("does", (EYES, ())))
            self.assertEqual(sought(((ALONE,) * many, EYES, HANDS, STEPS, 3, 0, 40), 0), ("none", ("fails", 0)))

    def test_one_machine_for_all_fields(self):
        for web in (lane(3), lane(4), ring(3)):
            fields = fields_of(web, 2, False)[:6]
            errand = (fields, ("chalk", "doors"), ("leave", "mark"), (None, 0), 2, 3, 9)
            seeker = Seeker(errand, 600)
            told = seeker.told()
            self.looks_right(errand, sought(errand, 600))
            self.with_most(errand, told, seeker.asked)

    def test_the_first_field_that_fails_by_the_rows(self):
        # One beat forward: of NEAR both pass one another, of LANE they meet; of LONG they stand side by side.
        for fields, j in (((NEAR,), 0), ((LANE, NEAR), 1), ((LANE, LANE, LONG, NEAR), 2), ((LANE, NEAR, LONG), 1)):
            errand = (fields, (), ("leave",), (0,), 1, 0, 1)
            self.assertEqual(sought(errand, 1), ("none", ("ask", 0, BLIND, (("fails", j),))))


class Bounds(Sought):
    def test_beats_at_their_bound(self):
        """By as many beats as the best of all fitting machines needs, and by one fewer."""
        for field in ((ring(8), ((0, 5), (0,))), (ring(7), ((0, 3), (0, 1))), (lane(6), ((0, 4), (4, 5)))):
            errand = ((field,), ("chalk",), ("leave",), (None, 0, 1), 1, 8, 40)
            told = [does(errand, machine) for machine in fitting_machines(errand)]
            best = min(t for word, t in told if word == "does")
            for beats in (0, best - 1, best, best + 1, 40):
                bounded = errand[:6] + (beats,)
                self.assertEqual(sought(bounded, 600)[0], "does" if beats >= best else "none", (field, beats))
                self.looks_right(bounded, sought(bounded, 600))
                self.assertEqual(sought(bounded, 600), search(bounded))

    def test_forty_beats(self):
        errand = ((NEAR,), (), ("leave",), (None, 0), 2, 0, 40)
        self.assertEqual(sought(errand, 600), search(errand))
        self.looks_right(errand, sought(errand, 600))

    def test_chalk_nought_and_at_its_bound(self):
        for chalk in (0, 1, 2, 3, 8):
            errand = ((TURN,), ("chalk",), ("leave", "mark"), (None, 0), 1, chalk, 4)
            told = sought(errand, 600)
            self.assertEqual(told, search(errand))
            self.looks_right(errand, told)
        for chalk, word in ((0, "none"), (1, "none"), (2, "does"), (8, "does")):
            self.assertEqual(sought(((LANE,), (), ("mark",), (0,), 1, chalk, 1), 1)[0], word)

    def test_chalk_at_the_beginning(self):
        for chalked in range(4):
            for chalk in range(5):
                field = (lane(3), ((0, 2), tuple(range(chalked))))
                told = sought(((field,), (), ("leave",), (0,), 1, chalk, 1), 600)
                self.assertEqual(told[0], "does" if chalked <= chalk else "none")
                if chalked > chalk:
                    self.assertEqual(told, ("none", ("fails", 0)))

    def test_more_than_six_hundred_rows(self):
        errand = (((lane(8), ((0, 7), ())),), EYES, HANDS, STEPS, 3, 8, 3)
        self.assertEqual(sought(errand, 600), ("open", None))
        self.assertEqual(sought(errand, 0), ("open", None))

    def test_long_ways(self):
        """One deed alone, so that each row asked lies on one way."""
        fields = tuple((ring(8), (tuple(range(many)), (0, 3))) for many in (2, 3, 4, 5, 6, 7))
        for step in (0, 1):
            errand = (fields, EYES, ("mark",), (step,), 1, 8, 40)
            seeker = Seeker(errand)
            told = seeker.told()
            self.with_most(errand, told, seeker.asked)
        # Deeds of three moods, the first of them failing only behind forty beats.
        errand = (((ring(8), ((0, 3), ())),), ("came", "chalk"), ("mark",), (0,), 3, 8, 40)
        seeker = Seeker(errand, 600)
        try:
            told = seeker.told()
        except TooMany:
            told = ("open", None)
        self.assertEqual(sought(errand, 600), told)


if __name__ == "__main__":
    unittest.main()
