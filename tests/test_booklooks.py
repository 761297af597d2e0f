import unittest

from helper import (ALL_EYES, BLIND, EYES, HANDS, LANE, LONG, NEAR, PAIR, STEPS, TURN, Likes, Touchy, changed,
                    fitting_machines, how_many, in_list, in_pair, in_tuple, is_quiet_field, is_same, nested,
                    other_kinds, search, sights_of, small_errands, strange_things, wanted_keys)
from ringmeet.beats import is_met
from ringmeet.booklooks import shows_none
from ringmeet.errands import deeds, does, fits, is_errand
from ringmeet.nevers import never, shows_never
from ringmeet.runs import walked
from ringmeet.webs import lane, ring

WHITE, CHALKED = (None, 0, None, None), (None, 1, None, None)
ONE, TWO = (None, None, 1, None), (None, None, 2, None)


def slow_look(errand, thing, rows=(), named=1):
    """What shows_none must tell, clause by clause as the document tells it."""
    fields, eyes, hands, steps, moods, chalk, beats = errand
    if type(thing) is not tuple or not thing or type(thing[0]) is not str:
        return False
    if thing[0] == "ask" and len(thing) == 4:
        word, mood, sight, books = thing
        known = any(is_same(sight, other) for other in sights_of(eyes))
        if type(mood) is not int or mood not in range(named) or not known or (mood, sight) in dict(rows):
            return False
        order = deeds(errand, named)
        return type(books) is tuple and len(books) == len(order) and all(
            slow_look(errand, book, rows + (((mood, sight), deed),), max(named, deed[0] + 1))
            for deed, book in zip(order, books))
    if thing[0] in ("fails", "never") and len(thing) == {"fails": 2, "never": 3}[thing[0]]:
        if type(thing[1]) is not int or thing[1] not in range(len(fields)):
            return False
        if thing[0] == "never":
            return shows_never(*fields[thing[1]], is_quiet_field(errand, thing[1]), thing[2])
        return slow_fails(errand, fields[thing[1]], rows)
    return False


def slow_fails(errand, field, rows):
    eyes, chalk, beats = errand[1], errand[5], errand[6]
    wholes = walked(field[0], (eyes, tuple(sorted(rows))), field[1], beats)
    for t, whole in enumerate(wholes):
        ahead = wholes[:t]
        asked = all(key in dict(rows) for one in ahead for key in wanted_keys(field[0], eyes, one))
        ends = len(whole[1]) > chalk or (t == beats and not is_met(whole))
        if ends and asked and not any(is_met(one) for one in ahead):
            return True
    return False


def told_books():
    return [(errand, told[1]) for errand in small_errands() for told in [search(errand)] if told[0] == "none"]


def end_instead(book):
    """A book for a deed, in the place of this one."""
    yield ("fails", 0)
    yield ("fails", 1)
    yield ("never", 0, ("colours", (0, 0, 0)))
    yield ("never", 0, ("alike", 0, 1, (0, 0, 0)))
    yield ("ask", 0, BLIND, (("fails", 0),) * 2)


def asked_on_the_way(book, above):
    """The book with, in the place of each end, a row that was asked above."""
    if book[0] != "ask":
        for key in above:
            for many in range(1, 9):
                yield ("ask",) + key + ((book,) * many,)
        return
    for k, branch in enumerate(book[3]):
        for other in asked_on_the_way(branch, above + (book[1:3],)):
            yield book[:3] + (book[3][:k] + (other,) + book[3][k + 1:],)


def book_otherwise(book):
    """The book with one part of it otherwise, at its own place."""
    if book[0] == "ask":
        word, mood, sight, books = book
        for k in range(len(books)):
            yield (word, mood, sight, books[:k] + books[k + 1:])
            yield (word, mood, sight, books[:k] + (books[k],) + books[k:])
            for n in range(k):
                yield (word, mood, sight, books[:n] + (books[k],) + books[n + 1:k] + (books[n],) + books[k + 1:])
        for other in (mood + 1, mood - 1, mood + 2, -1, 3, True, False, None, str(mood)):
            yield (word, other, sight, books)
        for eyes in ALL_EYES:
            yield (word, mood, sights_of(eyes)[-1], books)
        for at, part in enumerate(sight):
            for other in (0, 1, 2, 4, 5, -1, None, True, False):
                yield (word, mood, sight[:at] + (other,) + sight[at + 1:], books)
        yield (word, mood, books)
        yield (word, mood, sight, books, ())
        yield (word, mood, sight, list(books))
        yield (word, mood, list(sight), books)
        yield (word, sight, mood, books)
    else:
        for j in (-1, 0, 1, 2, 6, True, False, None, "0", (0,)):
            yield (book[0], j) + book[2:]
        yield book[:1]
        yield book + (0,)
        if book[0] == "never":
            for thing in (("colours", (0, 1)), ("colours", (0, 0)), None, (), ("alike", 0, 1, (0, 0)), book[1:]):
                yield ("never", book[1], thing)
            for paper in changed(book[2], lambda part: [part + 1] if type(part) is int else []):
                yield ("never", book[1], paper)
    yield list(book)
    yield ("fail",) + book[1:]
    yield (b"fails",) + book[1:]
    yield ("never",) + book[1:]
    yield from end_instead(book)


def books_otherwise(book):
    """The book with one part of it otherwise, at any place."""
    yield from book_otherwise(book)
    if book[0] == "ask":
        for k, branch in enumerate(book[3]):
            for other in books_otherwise(branch):
                yield book[:3] + (book[3][:k] + (other,) + book[3][k + 1:],)


class Taken(unittest.TestCase):
    def test_they_are_errands(self):
        for errand in small_errands():
            self.assertIs(is_errand(errand), True)

    def test_books_of_a_search(self):
        told = [search(errand)[0] for errand in small_errands()]
        self.assertGreater(told.count("none"), 10)
        self.assertGreater(told.count("does"), 5)
        for errand, book in told_books():
            self.assertIs(shows_none(errand, book), True)

    def test_what_is_taken_holds(self):
        looked_at = 0
        for errand in small_errands():
            if how_many(errand) <= 5000:
                looked_at += 1
                machines = list(fitting_machines(errand))
                self.assertTrue(all(fits(errand, machine) for machine in machines[::97]))
                done = any(does(errand, machine)[0] == "does" for machine in machines)
                self.assertEqual(done, search(errand)[0] == "does", errand)
        self.assertGreater(looked_at, 15)

    def test_no_book_is_taken_where_a_machine_does_it(self):
        errands = small_errands()
        books = [book for errand, book in told_books()]
        for errand in errands:
            if search(errand)[0] == "does":
                for book in books + [("fails", j) for j in range(6)]:
                    self.assertIs(shows_none(errand, book), False)
                    for other in end_instead(book):
                        self.assertIs(shows_none(errand, other), False)

    def test_one_part_otherwise_at_any_place(self):
        verdicts = []
        for errand, book in told_books():
            for other in books_otherwise(book):
                asked = slow_look(errand, other)
                self.assertIs(shows_none(errand, other), asked, (errand, other))
                verdicts.append(asked)
        self.assertGreater(verdicts.count(True), 50)
        self.assertGreater(verdicts.count(False), 5000)

    def test_a_row_asked_twice(self):
        found = 0
        for errand, book in told_books():
            for other in asked_on_the_way(book, ()):
                found += 1
                self.assertIs(shows_none(errand, other), False)
        self.assertGreater(found, 500)

    def test_books_for_another_errand(self):
        for errand, book in told_books():
            fields, eyes, hands, steps, moods, chalk, beats = errand
            others = [(fields, eyes, hands, steps, moods, chalk, other) for other in (beats - 1, beats + 1, 0, 40)]
            others += [(fields, eyes, hands, steps, moods, other, beats) for other in (chalk - 1, chalk + 1, 0, 8)]
            others += [(fields, eyes, hands, steps, other, chalk, beats) for other in (moods - 1, moods + 1)]
            others += [(fields, other, hands, steps, moods, chalk, beats) for other in ((), ("came",), EYES)]
            others += [(fields, eyes, other, steps, moods, chalk, beats) for other in (("leave",), ("wipe",), HANDS)]
            others += [(fields, eyes, hands, other, moods, chalk, beats) for other in ((None,), (1,), (None, 1), STEPS)]
            others += [(other,) + errand[1:] for other in (fields[::-1], (NEAR,), (TURN, LANE))]
            for other in others:
                if is_errand(other):
                    self.assertIs(shows_none(other, book), slow_look(other, book))


class Ask(unittest.TestCase):
    # Both go together for ever, if they see nothing: one row, two deeds.
    BLINDS = ((LANE,), (), ("leave",), (None, 0), 1, 0, 1)

    def test_written_out(self):
        errand = ((LANE,), (), ("leave",), (None, 1), 1, 0, 2)
        self.assertIs(shows_none(errand, ("ask", 0, BLIND, (("fails", 0), ("fails", 0)))), True)
        self.assertIs(shows_none(errand, ("ask", 0, BLIND, (("fails", 0),))), False)
        self.assertIs(shows_none(errand, ("ask", 0, BLIND, (("fails", 0),) * 3)), False)
        self.assertIs(shows_none(errand, ("fails", 0)), False)
        self.assertEqual(does(self.BLINDS, ((), (((0, BLIND), (0, "leave", 0)),))), ("does", 1))
        self.assertIs(shows_none(self.BLINDS, ("ask", 0, BLIND, (("fails", 0), ("fails", 0)))), False)

    def test_moods_are_named_one_by_one(self):
        end = ("fails", 0)
        for moods in (1, 2, 3):
            errand = ((NEAR,), (), ("leave",), (None,), moods, 0, 0)
            self.assertIs(shows_none(errand, end), True)
            for named in range(1, moods + 1):
                # Each ask but the first is of the newest mood; in its last deed the next one is named.
                for mood in range(-1, 5):
                    book = ("ask", mood, BLIND, (end,) * min(named + 1, moods))
                    for k in range(named - 1, 0, -1):
                        book = ("ask", k - 1, BLIND, (end,) * min(k, moods - 1) + (book,))
                    asked = mood == named - 1 if named > 1 else mood == 0
                    self.assertIs(shows_none(errand, book), asked, (moods, named, mood))

    def test_a_mood_stays_named(self):
        end = ("fails", 0)
        errand = ((NEAR,), ("doors",), ("leave",), (None,), 3, 0, 0)

        def ask(mood, sight, *books):
            return ("ask", mood, sight, books)

        # Named by the first row, mood 1 may be asked behind a second row whose deed is of mood 0.
        deep = ask(1, ONE, end, end, end)
        self.assertIs(shows_none(errand, ask(0, ONE, end, ask(0, TWO, deep, end, end))), True)
        self.assertIs(shows_none(errand, ask(0, ONE, ask(0, TWO, deep, end), end)), False)
        self.assertIs(shows_none(errand, ask(0, ONE, ask(0, TWO, end, deep), end)), True)
        self.assertIs(shows_none(errand, ask(0, ONE, end, ask(0, TWO, end, end, ask(2, ONE, end, end, end)))), True)
        self.assertIs(shows_none(errand, ask(0, ONE, end, ask(0, TWO, end, ask(2, ONE, end, end, end), end))), False)

    def test_a_row_may_be_asked_that_nobody_wants(self):
        errand = ((LANE,), ("doors",), ("leave",), (None,), 1, 0, 2)
        self.assertIs(shows_none(errand, ("ask", 0, ONE, (("fails", 0),))), True)
        for doors in (0, 2, 3, 4):
            idle = ("ask", 0, (None, None, doors, None), (("ask", 0, ONE, (("fails", 0),)),))
            self.assertIs(shows_none(errand, idle), True)
            self.assertIs(shows_none(errand, ("ask", 0, (None, None, doors, None), (("fails", 0),))), False)

    def test_rows_asked_on_another_way_do_not_count(self):
        errand = ((NEAR,), ("doors",), ("leave",), (None, 0), 1, 0, 1)
        stay = ("ask", 0, TWO, (("fails", 0), ("fails", 0)))
        # Who is at the end goes on: then it hangs on the other one's row, asked behind the first deed alone.
        self.assertIs(shows_none(errand, ("ask", 0, ONE, (stay, ("fails", 0)))), False)
        self.assertIs(shows_none(errand, ("ask", 0, ONE, (stay, stay))), False)
        blocked = ((NEAR,), ("doors",), ("leave",), (None, 1), 1, 0, 1)
        self.assertIs(shows_none(blocked, ("ask", 0, ONE, (stay, stay))), True)
        self.assertIs(shows_none(blocked, ("ask", 0, ONE, (stay, ("fails", 0)))), False)
        self.assertIs(shows_none(blocked, ("ask", 0, ONE, (("fails", 0), stay))), False)

    def test_a_long_way(self):
        """A book of as many rows as there are, one behind the other."""
        paper = never(*PAIR, False)
        errand = ((PAIR,), EYES, ("mark",), (None,), 3, 8, 40)
        end = ("never", 0, paper)
        keys = [(mood, sight) for sight in sights_of(EYES) for mood in range(3)]
        book = end
        for k, (mood, sight) in list(enumerate(keys))[::-1]:
            # The two first rows name moods 1 and 2 in their last deeds.
            book = ("ask", mood, sight, (end,) * (1 if k == 0 else 2) + (book,))
        self.assertIs(shows_none(errand, book), True)
        twice = ("ask", 0, sights_of(EYES)[0], (end,) * 3)
        self.assertIs(shows_none(errand, ("ask", 0, sights_of(EYES)[0], (end, twice))), False)


class Fails(unittest.TestCase):
    def test_not_met_behind_just_beats_beats(self):
        for beats in range(5):
            errand = ((LONG,), ("doors",), ("leave",), (0,), 1, 0, beats)
            # One beat: both ends go on, to rooms 1 and 2; these go back by door 0, and so on.
            book = ("ask", 0, ONE, (("fails", 0),))
            both = ("ask", 0, ONE, (("ask", 0, TWO, (("fails", 0),)),))
            self.assertIs(shows_none(errand, ("fails", 0)), beats == 0)
            self.assertIs(shows_none(errand, book), beats <= 1)
            self.assertIs(shows_none(errand, both), slow_look(errand, both))

    def test_met_at_just_beats_beats(self):
        for beats in range(5):
            errand = ((LANE,), (), ("leave",), (0,), 1, 0, beats)
            self.assertIs(shows_none(errand, ("ask", 0, BLIND, (("fails", 0),))), beats == 0)
            self.assertIs(shows_none(errand, ("fails", 0)), beats == 0)

    def test_met_at_the_beginning(self):
        errand = (((lane(3), ((1,), ())), LANE), (), ("leave",), (None,), 1, 0, 0)
        self.assertIs(shows_none(errand, ("fails", 0)), False)
        self.assertIs(shows_none(errand, ("fails", 1)), True)

    def test_too_much_chalk_at_the_beginning(self):
        for chalked in range(4):
            for rooms in ((0,), (0, 2)):
                for chalk in range(4):
                    field = (lane(3), (rooms, tuple(range(chalked))))
                    errand = ((field,), EYES, HANDS, STEPS, 3, chalk, 40)
                    self.assertIs(shows_none(errand, ("fails", 0)), chalked > chalk)

    def test_too_much_chalk_in_a_whole_that_is_met(self):
        for chalk in (0, 1, 2, 3):
            errand = ((LANE,), (), ("mark",), (0,), 1, chalk, 3)
            self.assertTrue(is_met(walked(lane(3), ((), (((0, BLIND), (0, "mark", 0)),)), LANE[1], 1)[-1]))
            self.assertIs(shows_none(errand, ("ask", 0, BLIND, (("fails", 0),))), chalk < 2)

    def test_too_much_chalk_behind_a_meeting(self):
        # They meet behind one beat; whatever is chalked then comes too late to fail.
        errand = ((LANE,), ("doors",), ("leave", "mark"), (0,), 1, 0, 5)
        rows = (((0, ONE), (0, "leave", 0)), ((0, TWO), (0, "mark", 0)))
        self.assertEqual(does(errand, (("doors",), rows)), ("does", 1))
        mark = ("ask", 0, TWO, (("fails", 0), ("fails", 0)))
        self.assertIs(shows_none(errand, ("ask", 0, ONE, (mark, ("fails", 0)))), False)
        self.assertIs(shows_none(errand, ("ask", 0, ONE, (("fails", 0), ("fails", 0)))), False)

    def test_too_much_chalk_at_just_beats_beats_and_beyond(self):
        for beats in range(4):
            errand = ((NEAR,), (), ("mark",), (None,), 1, 1, beats)
            self.assertIs(shows_none(errand, ("ask", 0, BLIND, (("fails", 0),))), True)
            self.assertIs(shows_none(errand, ("fails", 0)), beats == 0)
        # Both exchange rooms that look alike for ever, and mark each at its first beat.
        errand = (((lane(4), ((1, 2), ())),), (), ("mark",), (1,), 1, 3, 1)
        self.assertIs(shows_none(errand, ("ask", 0, BLIND, (("fails", 0),))), True)

    def test_too_much_chalk_ahead_of_a_row_that_is_not_asked(self):
        errand = ((NEAR,), ("doors",), ("mark",), (1,), 1, 1, 5)
        # Behind the first beat two rooms are chalked: no more rows are wanted, though beats are left.
        both = ("ask", 0, ONE, (("ask", 0, TWO, (("fails", 0),)),))
        self.assertIs(shows_none(errand, both), True)
        self.assertIs(shows_none((errand[0],) + errand[1:5] + (2, 5), both), slow_look(errand[:5] + (2, 5), both))
        fresh = ((NEAR,), ("chalk",), ("mark",), (None,), 1, 1, 5)
        self.assertIs(shows_none(fresh, ("ask", 0, WHITE, (("fails", 0),))), True)
        self.assertIs(shows_none(fresh[:5] + (2, 5), ("ask", 0, WHITE, (("fails", 0),))), False)
        whole = ("ask", 0, WHITE, (("ask", 0, CHALKED, (("fails", 0),)),))
        self.assertIs(shows_none(fresh[:5] + (2, 5), whole), True)

    def test_another_field(self):
        errand = ((LANE, NEAR), (), ("leave",), (0,), 1, 0, 1)
        self.assertIs(shows_none(errand, ("ask", 0, BLIND, (("fails", 0),))), False)
        self.assertIs(shows_none(errand, ("ask", 0, BLIND, (("fails", 1),))), True)
        for j in (-2, -1, 2, 3, 10 ** 30, True, False, None, "1", (1,), [1]):
            self.assertIs(shows_none(errand, ("ask", 0, BLIND, (("fails", j),))), False)


class Never(unittest.TestCase):
    def errand(self, field, eyes, hands):
        return ((field,), eyes, hands, (None, 0), 2, 8, 3)

    def test_papers_of_colours(self):
        paper = never(*PAIR, False)
        for eyes in ALL_EYES:
            for hands in (("leave",), ("mark",), HANDS):
                self.assertIs(shows_none(self.errand(PAIR, eyes, hands), ("never", 0, paper)), True)
                self.assertIs(shows_none(self.errand(TURN, eyes, hands), ("never", 0, ("colours", (0, 0, 0)))), False)

    def test_quiet_papers_just_where_the_machines_are_quiet(self):
        two, three = TURN, (ring(5), ((0, 1, 2), ()))
        for eyes in ALL_EYES:
            for hands in (("leave",), ("mark",), ("wipe",), ("leave", "mark"), ("leave", "wipe"), HANDS):
                quiet = hands == ("leave",)
                self.assertIs(shows_none(self.errand(two, eyes, hands), ("never", 0, ("alike", 0, 1, (0,) * 3))), quiet)
                self.assertIs(shows_none(self.errand(three, eyes, hands), ("never", 0, ("alike", 0, 1, (0,) * 5))),
                              quiet and "others" not in eyes)

    def test_that_field_has_two_walkers_not_another(self):
        fields = ((ring(5), ((0, 1, 2), ())), TURN)
        errand = (fields, ("others",), ("leave",), (0,), 1, 0, 3)
        self.assertIs(shows_none(errand, ("never", 0, ("alike", 0, 1, (0,) * 5))), False)
        self.assertIs(shows_none(errand, ("never", 1, ("alike", 0, 1, (0,) * 3))), True)
        self.assertIs(shows_none(errand, ("never", 0, ("alike", 0, 1, (0,) * 3))), False)
        self.assertIs(shows_none(errand, ("never", 1, ("alike", 0, 1, (0,) * 5))), False)

    def test_fields_numbers(self):
        paper = never(*PAIR, False)
        for j in (-1, 1, 2, True, False, None, "0", (0,), [0], 10 ** 30):
            self.assertIs(shows_none(self.errand(PAIR, (), HANDS), ("never", j, paper)), False)

    def test_papers_by_other_numbers_and_finer_ones(self):
        field = (ring(4), ((0, 1, 2, 3), ()))
        for colours in ((0, 0, 0, 0), (7, 7, 7, 7), (0, 1, 0, 1), (-3, 10 ** 30, -3, 10 ** 30)):
            self.assertIs(shows_none(self.errand(field, EYES, HANDS), ("never", 0, ("colours", colours))), True)
        for colours in ((0, 1, 2, 3), (0, 0, 1, 1), (0, 0, 0), [0, 0, 0, 0], (0, 0, 0, False), None):
            self.assertIs(shows_none(self.errand(field, EYES, HANDS), ("never", 0, ("colours", colours))), False)

    def test_at_the_end_of_a_way(self):
        errand = self.errand(PAIR, (), ("leave",))
        end = ("never", 0, never(*PAIR, False))
        self.assertIs(shows_none(errand, ("ask", 0, BLIND, (end,) * 4)), True)
        self.assertIs(shows_none(errand, ("ask", 0, BLIND, (end,) * 3 + (("fails", 0),))), False)


class OfAnything(unittest.TestCase):
    # Small ones, with each kind of end.
    BOOKS = [
        (((LANE,), (), ("leave",), (None, 1), 1, 0, 1), ("ask", 0, BLIND, (("fails", 0), ("fails", 0)))),
        (((NEAR,), ("chalk",), ("mark",), (None,), 1, 2, 3),
         ("ask", 0, WHITE, (("ask", 0, CHALKED, (("fails", 0),)),))),
        (((PAIR,), ("doors",), HANDS, (None,), 1, 0, 3), ("never", 0, ("colours", (0, 0)))),
        (((TURN,), (), ("leave",), (None,), 2, 0, 3),
         ("ask", 0, BLIND, (("never", 0, ("alike", 0, 1, (0, 0, 0))),) * 2)),
    ]

    def test_taken(self):
        for errand, book in self.BOOKS:
            self.assertIs(shows_none(errand, book), True)

    def test_other_kinds_at_every_depth(self):
        for errand, book in self.BOOKS:
            for thing in changed(book, other_kinds):
                self.assertIs(shows_none(errand, thing), False, thing)

    def test_things_of_all_kinds(self):
        errand, book = self.BOOKS[0]
        for thing in strange_things():
            for other in (thing, (thing,), ("ask", 0, thing, book[3]), ("ask", 0, BLIND, thing), ("fails", thing),
                          ("ask", 0, BLIND, (thing, thing)), (thing, 0), ("never", 0, thing), ("never", thing, thing),
                          (thing, 0, BLIND, book[3]), ("ask", 0, BLIND, (("fails", 0), thing))):
                self.assertIs(shows_none(errand, other), False, thing)
            # The whole number 0, among the things, is a mood and a field.
            good = type(thing) is int and thing == 0
            self.assertIs(shows_none(errand, ("ask", thing, BLIND, book[3])), good, thing)
            self.assertIs(shows_none(errand, ("ask", 0, BLIND, (("fails", thing), ("fails", 0)))), good, thing)

    def test_nested_forty_deep(self):
        errand, book = self.BOOKS[0]
        for core in ((), 0, None, "ask", [], ("fails", 0), Likes(), Touchy()):
            for wrap in (in_tuple, in_list, in_pair, lambda core: ("ask", 0, BLIND, (core, core)),
                         lambda core: ("ask", 0, BLIND, core), lambda core: ("never", 0, core),
                         lambda core: ("fails", core)):
                for deep in (2, 18):
                    thing = nested(deep, wrap, core)
                    self.assertIs(shows_none(errand, thing), False)
                    self.assertIs(shows_none(errand, ("ask", 0, BLIND, (("fails", 0), thing))), False)

    def test_lists_stay(self):
        errand, book = self.BOOKS[0]
        thing = ("ask", 0, BLIND, [["fails", 0], ["fails", [0]]])
        self.assertIs(shows_none(errand, thing), False)
        self.assertEqual(thing, ("ask", 0, BLIND, [["fails", 0], ["fails", [0]]]))


if __name__ == "__main__":
    unittest.main()
