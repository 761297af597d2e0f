import unittest

from helper import (ALONE, BLIND, HANDS, LANE, LONG, NEAR, PAIR, STEPS, TURN, Dice, Likes, Seeker, TooMany, Touchy,
                    changed, drawn_errand, fitting_machines, how_many, in_list, in_pair, in_tuple, is_told, nested,
                    other_kinds, small_errands, strange_things)
from ringmeet.booklooks import shows_none
from ringmeet.errands import does, fits, is_errand
from ringmeet.fewest import fewest, least_chalk, shows_fewest, shows_least_chalk
from ringmeet.machines import is_machine
from ringmeet.seeking import sought
from ringmeet.webs import lane

# What tells, what looks, where the bound stands in the errand, and the least that it may be.
MOODS = (fewest, shows_fewest, 4, 1)
CHALK = (least_chalk, shows_least_chalk, 5, 0)
KINDS = (MOODS, CHALK)

# Three moods are needed by the first, four rooms of chalk by the other: all mark wherever they go.
THREE_MOODS = (((lane(5), ((0, 3), ())),), (), ("mark",), (0, 1), 3, 4, 6)
FOUR_CHALK = (((lane(4), ((0, 3), ())),), (), ("mark",), (0, 1), 3, 6, 6)


def bounded(errand, at, many):
    return errand[:at] + (many,) + errand[at + 1:]


def counted(errand, at, first, cap=100):
    """For each number of the bound what the search tells with it, and how many rows it asks; None beyond the cap."""
    found = []
    for many in range(first, errand[at] + 1):
        seeker = Seeker(bounded(errand, at, many), cap)
        try:
            found.append((many, seeker.told(), seeker.asked))
        except TooMany:
            found.append((many, None, cap + 1))
    return found


def expected(found, most):
    """What must be told, of searches each by itself with most rows."""
    books = []
    for many, told, asked in found:
        if asked > most:
            return ("open", many)
        if told[0] == "does":
            return ("does", many, told[1], tuple(books))
        books.append(told[1])
    return ("none", tuple(books))


def errands():
    return small_errands() + [THREE_MOODS, FOUR_CHALK]


def done_by_some_machine(errand):
    return any(does(errand, machine)[0] == "does" for machine in fitting_machines(errand))


def slow_look(errand, thing, at, first):
    """What the lookers must tell, clause by clause as the document tells it."""
    if type(thing) is not tuple or len(thing) != 4 or type(thing[0]) is not str or thing[0] != "does":
        return False
    many, machine, books = thing[1:]
    if type(many) is not int or not first <= many <= errand[at]:
        return False
    with_many = bounded(errand, at, many)
    if not is_machine(machine) or not fits(with_many, machine) or does(with_many, machine)[0] != "does":
        return False
    fewer = list(range(first, many))
    return type(books) is tuple and len(books) == len(fewer) and all(
        shows_none(bounded(errand, at, few), book) for few, book in zip(fewer, books))


class Told(unittest.TestCase):
    def told(self, errand, kind):
        """Look at what is told with any number of rows; tell the words that were told."""
        tells, looks, at, first = kind
        found = counted(errand, at, first)
        words = []
        rows = [asked for many, told, asked in found]
        for most in sorted({0, 600} | set(rows) | {many - 1 for many in rows if many}):
            if most <= 100 or max(rows) <= 100:
                told = tells(errand, most)
                self.assertTrue(is_told(told))
                self.assertEqual(told, expected(found, most), (errand, most))
                words.append(told[0])
        return words

    def test_small_errands(self):
        for kind in KINDS:
            words = []
            for errand in errands():
                words += self.told(errand, kind)
            for word in ("does", "none", "open"):
                self.assertGreater(words.count(word), 10)

    def test_drawn_errands(self):
        dice = Dice(91)
        for kind in KINDS:
            words = []
            for _ in range(40):
                words += self.told(drawn_errand(dice), kind)
            for word in ("does", "none", "open"):
                self.assertGreater(words.count(word), 5)

    def test_three_moods(self):
        word, many, machine, books = fewest(THREE_MOODS, 600)
        self.assertEqual((word, many, len(books)), ("does", 3, 2))
        self.assertEqual(machine, sought(THREE_MOODS, 600)[1])
        for k, book in enumerate(books):
            self.assertEqual(("none", book), sought(bounded(THREE_MOODS, 4, k + 1), 600))
        self.assertEqual(fewest(bounded(THREE_MOODS, 4, 2), 600), ("none", books))
        self.assertEqual(fewest(bounded(THREE_MOODS, 4, 1), 600), ("none", books[:1]))

    def test_chalk_from_nought_on(self):
        word, many, machine, books = least_chalk(FOUR_CHALK, 600)
        self.assertEqual((word, many, len(books)), ("does", 4, 4))
        for k, book in enumerate(books):
            self.assertEqual(("none", book), sought(bounded(FOUR_CHALK, 5, k), 600))
        self.assertEqual(least_chalk(bounded(FOUR_CHALK, 5, 4), 600), (word, many, machine, books))
        self.assertEqual(least_chalk(bounded(FOUR_CHALK, 5, 3), 600), ("none", books))
        self.assertEqual(least_chalk(bounded(FOUR_CHALK, 5, 0), 600), ("none", books[:1]))

    def test_done_at_the_least(self):
        errand = ((LANE,), (), ("leave",), (None, 0), 3, 8, 3)
        machine = ((), (((0, BLIND), (0, "leave", 0)),))
        self.assertEqual(fewest(errand, 1), ("does", 1, machine, ()))
        self.assertEqual(least_chalk(errand, 1), ("does", 0, machine, ()))
        self.assertEqual(fewest(errand, 0), ("open", 1))
        self.assertEqual(least_chalk(errand, 0), ("open", 0))

    def test_the_first_that_is_open(self):
        rows = [asked for many, told, asked in counted(THREE_MOODS, 4, 1)]
        self.assertLess(rows[0], rows[1])
        self.assertEqual(fewest(THREE_MOODS, rows[0]), ("open", 2))
        self.assertEqual(fewest(THREE_MOODS, rows[0] - 1), ("open", 1))
        self.assertEqual(fewest(THREE_MOODS, max(rows))[0], "does")
        # Each search is by itself: all rows together are more than any one of them asks.
        self.assertGreater(sum(rows), max(rows))

    def test_none_where_a_field_never_meets(self):
        errand = ((LANE, PAIR), (), HANDS, STEPS, 3, 8, 40)
        paper = ("never", 1, ("colours", (0, 0)))
        self.assertEqual(fewest(errand, 0), ("none", (paper,) * 3))
        self.assertEqual(least_chalk(errand, 0), ("none", (paper,) * 9))

    def test_chalk_at_the_beginning(self):
        errand = (((lane(3), ((0, 2), (0, 1))),), (), ("leave",), (0,), 2, 5, 1)
        word, many, machine, books = least_chalk(errand, 1)
        self.assertEqual((word, many, books), ("does", 2, (("fails", 0), ("fails", 0))))
        self.assertEqual(fewest(bounded(errand, 5, 1), 1), ("none", (("fails", 0), ("fails", 0))))

    def test_met_at_the_beginning(self):
        errand = ((ALONE,), (), ("leave",), (None,), 3, 8, 0)
        self.assertEqual(fewest(errand, 0), ("does", 1, ((), ()), ()))
        self.assertEqual(least_chalk(errand, 0), ("does", 1, ((), ()), (("fails", 0),)))


class Holds(unittest.TestCase):
    def test_with_fewer_no_machine_does_it(self):
        found = 0
        for tells, looks, at, first in KINDS:
            for errand in errands():
                told = tells(errand, 600)
                if told[0] == "open":
                    continue
                least = told[1] if told[0] == "does" else errand[at] + 1
                for many in range(first, errand[at] + 1):
                    if how_many(bounded(errand, at, many)) <= 3000:
                        found += 1
                        self.assertEqual(done_by_some_machine(bounded(errand, at, many)), many >= least)
        self.assertGreater(found, 60)

    def test_whatever_is_taken_holds(self):
        """With many told by any thing that is taken, no machine of fewer does it."""
        taken = 0
        for tells, looks, at, first in KINDS:
            for errand in errands():
                told = tells(errand, 600)
                for many in range(first, errand[at] + 1):
                    with_many = bounded(errand, at, many)
                    word, machine = sought(with_many, 600)
                    books = [sought(bounded(errand, at, few), 600)[1] for few in range(first, many)]
                    thing = ("does", many, machine, tuple(books))
                    good = word == "does" and told[0] == "does" and many == told[1]
                    self.assertIs(looks(errand, thing), good)
                    taken += good
        self.assertGreater(taken, 15)


def machines_otherwise(machine):
    """The machine with one row left out, one deed otherwise, or rows that nobody wants."""
    eyes, rows = machine
    for k, (key, deed) in enumerate(rows):
        yield eyes, rows[:k] + rows[k + 1:]
        for other in ((deed[0] + 1, deed[1], deed[2]), (deed[0], "wipe", deed[2]), (deed[0], deed[1], 3),
                      (deed[0], deed[1], None), (0,) + deed[1:]):
            yield eyes, rows[:k] + ((key, other),) + rows[k + 1:]
    if rows:
        sight = rows[-1][0][1]
        for mood in range(5):
            for deed in ((0, "leave", 0), (4, "leave", 0), rows[0][1]):
                if mood > rows[-1][0][0]:
                    yield eyes, rows + (((mood, sight), deed),)
        yield eyes, rows[::-1]
        yield eyes, rows + rows[:1]
    yield tuple(eye for eye in ("came", "chalk") if eye not in eyes), rows
    yield eyes, ()
    yield eyes
    yield rows


def told_otherwise(thing):
    """What is told with one part of it otherwise, at any place."""
    word, many, machine, books = thing
    for other in (many - 1, many + 1, 0, 1, 2, 3, 8, 9, -1, True, False, None, str(many), (many,)):
        yield (word, other, machine, books)
    for other in machines_otherwise(machine):
        yield (word, many, other, books)
    for k in range(len(books)):
        yield (word, many, machine, books[:k] + books[k + 1:])
        yield (word, many, machine, books[:k] + (books[k],) + books[k:])
        for other in (("fails", 0), ("fails", 1), ("never", 0, ("colours", (0, 0))), (), None, list(books[k])):
            yield (word, many, machine, books[:k] + (other,) + books[k + 1:])
        for n in range(k):
            yield (word, many, machine, books[:n] + (books[k],) + books[n + 1:k] + (books[n],) + books[k + 1:])
        yield (word, many - 1, machine, books[:k] + books[k + 1:])
        yield (word, many + 1, machine, books[:k] + (books[k],) + books[k:])
    yield (word, many, machine, books + (("fails", 0),))
    yield (word, many, machine, (("fails", 0),) + books)
    yield (word, many + 1, machine, books + (("fails", 0),))
    yield (word, many, machine, books[::-1])
    yield (word, many, machine, list(books))
    yield (word, many, list(machine), books)
    yield (word, many, books, machine)
    yield (word, machine, many, books)
    for other in ("do", "none", "open", "Does", "", b"does", None, 0):
        yield (other, many, machine, books)
    yield thing[:3]
    yield thing + ((),)
    yield thing[1:]
    yield list(thing)


class Looks(unittest.TestCase):
    def told(self):
        """(kind, errand, what is told) of those that are done."""
        for kind in KINDS:
            for errand in errands() + [((LONG, NEAR), ("doors",), ("leave",), (None, 0, 1), 3, 2, 4),
                                       ((TURN,), ("chalk",), ("leave", "mark"), (None, 0, 1), 2, 4, 4)]:
                told = kind[0](errand, 600)
                if told[0] == "does":
                    yield kind, errand, told

    def test_what_is_told_is_taken(self):
        many = 0
        for (tells, looks, at, first), errand, told in self.told():
            many += 1
            self.assertIs(looks(errand, told), True)
        self.assertGreater(many, 20)

    def test_what_is_told_else_is_not_taken(self):
        for tells, looks, at, first in KINDS:
            for errand in errands():
                for most in (0, 600):
                    told = tells(errand, most)
                    self.assertIs(looks(errand, told), told[0] == "does")

    def test_each_part_otherwise(self):
        verdicts = []
        for (tells, looks, at, first), errand, told in self.told():
            for thing in told_otherwise(told):
                asked = slow_look(errand, thing, at, first)
                self.assertIs(looks(errand, thing), asked, (errand, thing))
                verdicts.append(asked)
        self.assertGreater(verdicts.count(True), 20)
        self.assertGreater(verdicts.count(False), 1000)

    def test_for_another_errand(self):
        for (tells, looks, at, first), errand, told in self.told():
            fields, eyes, hands, steps, moods, chalk, beats = errand
            others = [errand[:4] + (other,) + errand[5:] for other in (1, 2, 3)]
            others += [errand[:5] + (other, beats) for other in (0, 1, 2, 3, 4, 5, 8)]
            others += [errand[:6] + (other,) for other in (0, 1, 2, beats + 1, 40)]
            others += [(fields, eyes, other) + errand[3:] for other in (("leave",), ("mark",), HANDS)]
            others += [errand[:3] + (other,) + errand[4:] for other in ((None,), (0,), (0, 1), STEPS)]
            others += [(other,) + errand[1:] for other in ((LANE,), (NEAR, LANE), (ALONE,))]
            for other in others:
                if is_errand(other):
                    self.assertIs(looks(other, told), slow_look(other, told, at, first))

    def test_moods_and_chalk_are_not_taken_for_one_another(self):
        self.assertIs(shows_fewest(THREE_MOODS, least_chalk(THREE_MOODS, 600)), False)
        self.assertIs(shows_least_chalk(FOUR_CHALK, fewest(FOUR_CHALK, 600)), False)

    def test_many_at_its_bounds(self):
        errand = ((LANE,), (), ("leave",), (None, 0), 3, 8, 3)
        machine = ((), (((0, BLIND), (0, "leave", 0)),))
        for many in range(-2, 12):
            self.assertIs(shows_fewest(errand, ("does", many, machine, ())), many == 1)
            self.assertIs(shows_least_chalk(errand, ("does", many, machine, ())), many == 0)
        never = (((lane(3), ((0, 2), (0, 1, 2))),), (), ("leave",), (0,), 1, 2, 3)
        # With three rooms chalked at first, only more chalk than the errand's would do.
        thing = ("does", 3, machine, (("fails", 0),) * 3)
        self.assertIs(shows_least_chalk(never, thing), False)
        self.assertIs(shows_least_chalk(bounded(never, 5, 3), thing), True)
        self.assertIs(shows_least_chalk(bounded(never, 5, 8), thing), True)

    def test_a_machine_that_does_it_but_does_not_fit(self):
        errand = ((LANE,), (), ("leave",), (0,), 1, 0, 3)
        for machine, good in ((((), (((0, BLIND), (0, "leave", 0)),)), True),
                              (((), (((0, BLIND), (1, "leave", 0)),)), False),
                              (((), (((0, BLIND), (0, "wipe", 0)),)), False),
                              (((), (((0, BLIND), (0, "leave", 0)), ((1, BLIND), (0, "leave", 0)))), False),
                              ((("doors",), (((0, (None, None, 1, None)), (0, "leave", 0)),)), False)):
            self.assertEqual(does(errand, machine)[0], "does")
            self.assertIs(shows_fewest(errand, ("does", 1, machine, ())), good)
            self.assertIs(shows_least_chalk(errand, ("does", 0, machine, ())), good)

    def test_a_machine_that_fits_with_more_moods_alone(self):
        word, many, machine, books = fewest(THREE_MOODS, 600)
        self.assertIs(shows_fewest(THREE_MOODS, ("does", 2, machine, books[:1])), False)
        self.assertIs(shows_fewest(bounded(THREE_MOODS, 4, 2), (word, many, machine, books)), False)

    def test_a_machine_that_does_it_with_more_chalk_alone(self):
        word, many, machine, books = least_chalk(FOUR_CHALK, 600)
        self.assertIs(shows_least_chalk(FOUR_CHALK, ("does", 3, machine, books[:3])), False)

    def test_other_kinds(self):
        small = [(kind, errand, told) for kind, errand, told in self.told() if len(repr(told)) < 400]
        self.assertGreater(len(small), 8)
        for (tells, looks, at, first), errand, told in small:
            for thing in changed(told, other_kinds):
                self.assertIs(looks(errand, thing), slow_look(errand, thing, at, first), thing)

    def test_things_of_all_kinds(self):
        for tells, looks, at, first in KINDS:
            for errand in (THREE_MOODS, FOUR_CHALK, ((LANE,), (), ("leave",), (0,), 1, 0, 3)):
                word, many, machine, books = tells(errand, 600)
                for thing in strange_things():
                    for other in (thing, (thing, many, machine, books), (word, many, thing, books), (thing,) * 4,
                                  (word, many, (thing, machine[1]), books), (word, many, (machine[0], thing), books),
                                  (word, many, machine, (thing,) + books[1:] if books else (thing,))):
                        self.assertIs(looks(errand, other), slow_look(errand, other, at, first))
                    self.assertIs(looks(errand, (word, thing, machine, books)), type(thing) is int and thing == many)
                    good = type(thing) is tuple and not books and not thing
                    self.assertIs(looks(errand, (word, many, machine, thing)), good)

    def test_nested_forty_deep(self):
        word, many, machine, books = fewest(THREE_MOODS, 600)
        for core in ((), 0, None, "does", [], {}, Likes(), Touchy()):
            for wrap in (in_tuple, in_list, in_pair):
                deep = nested(37 if wrap is not in_pair else 18, wrap, core)
                for thing in (deep, (word, deep, machine, books), (word, many, deep, books),
                              (word, many, machine, deep), (word, many, machine, (books[0], deep)),
                              (word, many, machine, (deep, books[1])), (deep, many, machine, books),
                              (word, many, (deep, deep), books)):
                    self.assertIs(shows_fewest(THREE_MOODS, thing), False)
                    self.assertIs(shows_least_chalk(THREE_MOODS, thing), False)

    def test_lists_stay(self):
        thing = ["does", [1], [[], []], [["fails", 0]]]
        for other in (thing, ("does", 1, thing[2], thing[3]), ("does", 2, ((), ()), thing[3])):
            self.assertIs(shows_fewest(THREE_MOODS, other), False)
            self.assertIs(shows_least_chalk(THREE_MOODS, other), False)
        self.assertEqual(thing, ["does", [1], [[], []], [["fails", 0]]])


if __name__ == "__main__":
    unittest.main()
