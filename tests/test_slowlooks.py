import itertools
import unittest

from helper import (ALL_EYES, BLIND, HANDS, Dice, Likes, Touchy, beat_by_words, changed, cover_webs, drawn_machine,
                    drawn_standing, drawn_web, in_list, in_pair, in_tuple, nested, other_kinds, sets_of, small_webs,
                    strange_things)
from ringmeet.beats import begun, is_met
from ringmeet.nevers import never
from ringmeet.quiet import is_quiet
from ringmeet.slow import slow
from ringmeet.slowbeats import slow_walked
from ringmeet.slowlooks import shows_dodge, shows_sure
from ringmeet.webs import lane, ring

ON = ((), (((0, BLIND), (0, "leave", 0)),))
REST = ((), ())
# Goes on where there is no chalk, stays where there is.
TO_CHALK = (("chalk",), (((0, (None, 0, None, None)), (0, "leave", 0)),))
# Ends go on, who is in the middle of a lane of three stays.
TO_MIDDLE = (("doors",), (((0, (None, None, 1, None)), (0, "leave", 0)),))


def is_number(thing, bound=None):
    return type(thing) is int and thing >= 0 and (bound is None or thing < bound)


def is_rising_tuple(thing, bound):
    return (type(thing) is tuple and all(is_number(part, bound) for part in thing)
            and list(thing) == sorted(set(thing)))


def is_whole_by_words(web, many, thing):
    """Whether a thing is a whole of so many walkers, clause by clause as the document tells it."""
    if type(thing) is not tuple or len(thing) != 2 or type(thing[0]) is not tuple or len(thing[0]) != many:
        return False
    for walker in thing[0]:
        if type(walker) is not tuple or len(walker) != 3 or not is_number(walker[0], len(web)):
            return False
        if not is_number(walker[1], len(web[walker[0]]) + 1) or not is_number(walker[2], 4000):
            return False
    return is_rising_tuple(thing[1], len(web))


def sure_by_words(web, machine, standing, thing):
    """What shows_sure must tell, clause by clause as the document tells it."""
    many = len(standing[0])
    if type(thing) is not tuple:
        return False
    for part in thing:
        if type(part) is not tuple or len(part) != 3 or not is_whole_by_words(web, many, part[0]):
            return False
        if is_met(part[0]) or not is_number(part[1]) or not is_number(part[2], many):
            return False
    wholes = [part[0] for part in thing]
    if len(set(wholes)) < len(wholes) or (not is_met(begun(standing)) and begun(standing) not in wholes):
        return False
    for whole, rank, helper in thing:
        for choice in sets_of(many)[1:]:
            behind = beat_by_words(web, machine, whole, choice)
            good = is_met(behind) or any(
                other == behind and (less < rank or (helper not in choice and (less, he) == (rank, helper)))
                for other, less, he in thing)
            if not good:
                return False
    return True


def dodge_by_words(web, machine, standing, way, turn):
    """What shows_dodge must tell, clause by clause as the document tells it."""
    many = len(standing[0])
    for choices in (way, turn):
        if type(choices) is not tuple:
            return False
        if not all(choice != () and is_rising_tuple(choice, many) for choice in choices):
            return False
    if any(all(walker not in choice for choice in turn) for walker in range(many)):
        return False
    wholes = [begun(standing)]
    for choice in way + turn:
        wholes.append(beat_by_words(web, machine, wholes[-1], choice))
    return wholes[len(way)] == wholes[-1] and not any(is_met(whole) for whole in wholes)


def cases(dice, many):
    """Drawn (web, machine, standing) of two and three walkers, and some of which it is known how they go."""
    yield ring(5), TO_CHALK, ((0, 1), (0,))
    yield ring(4), TO_CHALK, ((0, 1, 2), (0,))
    yield lane(3), TO_MIDDLE, ((0, 2), ())
    yield lane(3), TO_MIDDLE, ((0, 1, 2), (1,))
    yield ring(4), ON, ((0, 2), ())
    yield lane(2), REST, ((0, 1), ())
    yield lane(3), ON, ((0, 1), (2,))
    for _ in range(many):
        web = dice.pick([lane(2), lane(3), ring(2), ring(3), drawn_web(dice, 2 + dice.roll(3))])
        machine = drawn_machine(dice, dice.pick(ALL_EYES), 1 + dice.roll(2), dice.pick([("leave",), HANDS]))
        rooms = dice.shuffled(range(len(web)))[:2 + dice.roll(2)]
        yield web, machine, (tuple(sorted(rooms)), dice.some(range(len(web))))


def told(word, many, seed, most=60):
    """(case, what slow tells) of those of this word, begun unmet."""
    found = []
    for case in cases(Dice(seed), many):
        answer = slow(*case, most)
        if answer[0] == word and answer[1:] != ((),):
            found.append((case, answer))
    return found


class ShowsSure(unittest.TestCase):
    def takes(self, case, thing, asked):
        self.assertIs(shows_sure(*case, thing), asked, (case, thing))

    def test_what_slow_tells_in_any_order(self):
        dice = Dice(121)
        many = 0
        for case, (word, ranks) in told("sure", 400, 122):
            many += 1
            self.takes(case, ranks, True)
            self.takes(case, ranks[::-1], True)
            self.takes(case, tuple(dice.shuffled(ranks)), True)
        self.assertGreater(many, 25)

    def test_begun_met_and_not(self):
        for machine in (REST, ON, TO_CHALK):
            self.takes((ring(4), machine, ((2,), ())), (), True)
            self.takes((lane(1), machine, ((0,), (0,))), (), True)
            self.takes((ring(4), machine, ((1, 2), ())), (), False)
            self.takes((lane(2), machine, ((0, 1), ())), (), False)

    def test_one_walker_has_no_ranks(self):
        whole = (((1, 0, 0),), ())
        for rank in (0, 1):
            self.takes((ring(4), ON, ((1,), ())), ((whole, rank, 0),), False)

    def test_written_out(self):
        case = (ring(3), TO_CHALK, ((0, 1), (0,)))
        first, second = (((0, 0, 0), (1, 0, 0)), (0,)), (((0, 0, 0), (2, 2, 0)), (0,))
        for one, other in itertools.product(range(4), repeat=2):
            for helper, he in itertools.product(range(2), repeat=2):
                # Walker 0 rests where it is: each choice of it alone leaves all as it is, so it helps nobody.
                good = one > other and helper == he == 1
                self.takes(case, ((first, one, helper), (second, other, he)), good)
                self.takes(case, ((second, other, he), (first, one, helper)), good)
        self.takes(case, ((first, 0, 1),), False)
        self.takes(case, ((second, 0, 1),), False)
        self.takes(case, ((second, 0, 1), (first, 10 ** 40, 1)), True)
        self.takes(case, ((second, 0, 1), (first, -1, 1)), False)
        self.takes(case, ((second, -1, 1), (first, 0, 1)), False)

    def test_the_helper_of_the_same_rank(self):
        # Walker 1 counts its moods round while it waits; whichever it has, walker 0 comes when it steps.
        rows = (((0, (None, None, 1, None)), (0, "leave", 0)), ((0, (None, None, 2, None)), (1, "leave", None)),
                ((1, (None, None, 2, None)), (0, "leave", None)))
        case = (lane(3), (("doors",), rows), ((0, 1), ()))
        wholes = [(((0, 0, 0), (1, 0, mood)), ()) for mood in (0, 1)]
        for ranks in itertools.product(range(3), repeat=2):
            for helpers in itertools.product(range(2), repeat=2):
                thing = tuple(zip(wholes, ranks, helpers))
                self.takes(case, thing, ranks[0] == ranks[1] and helpers == (0, 0))

    def test_other_wholes_besides(self):
        """Ranks of another standing of as many walkers, lifted above the others."""
        many = 0
        for case, (word, ranks) in told("sure", 250, 123):
            web, machine, standing = case
            for rooms in itertools.combinations(range(len(web)), len(standing[0])):
                for chalk in (standing[1], ()):
                    other = slow(web, machine, (rooms, chalk), 60)
                    if other[0] == "sure":
                        known = {whole for whole, rank, helper in ranks}
                        above = 1 + max(rank for whole, rank, helper in ranks)
                        more = tuple((whole, rank + above, helper) for whole, rank, helper in other[1]
                                     if whole not in known)
                        many += bool(more)
                        self.takes(case, ranks + more, True)
                        self.takes(case, more + ranks, True)
                        self.takes((web, machine, (rooms, chalk)), ranks + more, True)
        self.assertGreater(many, 20)

    def test_begun_met_with_wholes_besides(self):
        # No whole of one walker isn't met; of more, none begins met: a standing has unlike rooms.
        ranks = slow(ring(4), TO_CHALK, ((0, 1), (0,)), 60)[1]
        self.takes((ring(4), TO_CHALK, ((0,), (0,))), ranks, False)

    def test_each_clause_broken_at_any_place(self):
        verdicts = []
        for case, (word, ranks) in told("sure", 120, 124):
            web, machine, standing = case
            many = len(standing[0])
            for k, (whole, rank, helper) in enumerate(ranks):
                others = [ranks[:k] + ranks[k + 1:], ranks + (ranks[k],), ranks + ((whole, rank + 1, helper),)]
                parts = [(whole, other, helper) for other in (rank + 1, rank - 1, 0, -1, 10 ** 9)]
                parts += [(whole, rank, other) for other in (0, 1, 2, -1, many, many - 1)]
                parts += [(other, rank, helper) for other in self.wholes_otherwise(web, whole)]
                others += [ranks[:k] + (part,) + ranks[k + 1:] for part in parts]
                others += [ranks + (part,) for part in parts]
                for thing in others:
                    asked = sure_by_words(*case, thing)
                    verdicts.append(asked)
                    self.takes(case, thing, asked)
        self.assertGreater(verdicts.count(True), 100)
        self.assertGreater(verdicts.count(False), 1000)

    def wholes_otherwise(self, web, whole):
        """The whole with one part of it otherwise."""
        walkers, chalk = whole
        yield walkers[1:], chalk
        yield walkers + walkers[:1], chalk
        yield walkers[::-1], chalk
        yield walkers[:1] * len(walkers), chalk
        yield whole[::-1]
        yield walkers
        for other in ((0,), (1, 0), (0, 0), (len(web),), (-1,), chalk + (0,), tuple(range(len(web)))):
            yield walkers, other
        for k, (room, came, mood) in enumerate(walkers):
            for other in ((room + 1, came, mood), (room - 1, came, mood), (len(web), came, mood), (room, came, 3999),
                          (room, came + 1, mood), (room, len(web[room]) + 1, mood), (room, -1, mood),
                          (room, came, 4000), (room, came, mood + 1), (room, came, -1), (room, came),
                          (room, came, mood, 0)):
                yield walkers[:k] + (other,) + walkers[k + 1:], chalk

    def test_wholes_at_their_bounds(self):
        """Besides what slow tells, a whole from which walker 1 comes whenever it steps, whatever walker 0 is like."""
        case = (lane(3), TO_MIDDLE, ((0, 1), ()))
        ranks = slow(*case, 60)[1]
        end = (0, 1, 0)
        for came, good in ((-1, False), (0, True), (1, True), (2, True), (3, False), (4, False)):
            self.takes(case, ranks + (((((1, came, 0), end), ()), 0, 1),), good)
        for mood, good in ((-1, False), (1, True), (3999, True), (4000, False), (10 ** 30, False)):
            self.takes(case, ranks + (((((1, 0, mood), end), ()), 0, 1),), good)
        for chalk, good in (((0, 1, 2), True), ((1,), True), ((3,), False), ((1, 0), False), ((1, 1), False),
                            ((-1,), False)):
            self.takes(case, ranks + (((((1, 0, 0), end), chalk), 0, 1),), good)
        for room in (-1, 3, 8):
            self.takes(case, ranks + (((((room, 0, 0), end), ()), 0, 1),), False)

    def test_a_met_whole_is_not_ranked(self):
        case = (lane(3), TO_MIDDLE, ((0, 1), ()))
        ranks = slow(*case, 60)[1]
        for rank in (0, 5):
            self.takes(case, ranks + (((((1, 0, 0), (1, 0, 0)), ()), rank, 0),), False)

    def test_for_another_standing_machine_or_web(self):
        for case, (word, ranks) in told("sure", 60, 125):
            web, machine, standing = case
            others = [(web, machine, (rooms, chalk)) for rooms in sets_of(len(web))[1:] for chalk in ((), (0,))]
            others += [(web, other, standing) for other in (REST, ON, TO_CHALK, TO_MIDDLE)]
            others += [(other, machine, standing) for other in (ring(4), lane(5), lane(4))]
            for other in others:
                if max(other[2][0] + other[2][1]) < len(other[0]):
                    self.takes(other, ranks, sure_by_words(*other, ranks))

    def test_drawn_ranks(self):
        dice = Dice(126)
        verdicts = []
        for case, (word, ranks) in told("sure", 120, 127):
            many = len(case[2][0])
            for _ in range(20):
                thing = tuple((whole, rank + dice.roll(2), dice.pick((helper, helper, dice.roll(many))))
                              for whole, rank, helper in ranks)
                asked = sure_by_words(*case, thing)
                verdicts.append(asked)
                self.takes(case, thing, asked)
        self.assertGreater(verdicts.count(True), 20)
        self.assertGreater(verdicts.count(False), 20)

    def test_other_kinds_at_every_depth(self):
        small = [(case, ranks) for case, (word, ranks) in told("sure", 60, 128) if len(ranks) <= 3]
        self.assertGreater(len(small), 3)
        for case, ranks in small[:8]:
            for thing in changed(ranks, other_kinds):
                self.takes(case, thing, False)

    def test_things_of_all_kinds(self):
        case = (lane(3), TO_MIDDLE, ((0, 1), ()))
        ranks = slow(*case, 60)[1]
        whole, rank, helper = ranks[0]
        for thing in strange_things():
            self.takes(case, thing, False)
            for other in ((thing,), ranks + (thing,), (thing,) + ranks, ((thing, rank, helper),) + ranks[1:],
                          (((thing, whole[1]), rank, helper),) + ranks[1:], (ranks[0] + (thing,),) + ranks[1:],
                          ((((thing,) + whole[0][1:], whole[1]), rank, helper),) + ranks[1:]):
                self.takes(case, other, False)
            for other in (((whole, thing, helper),) + ranks[1:], ((whole, rank, thing),) + ranks[1:],
                          (((whole[0], thing), rank, helper),) + ranks[1:]):
                self.takes(case, other, sure_by_words(*case, other))

    def test_nested_forty_deep(self):
        case = (lane(3), TO_MIDDLE, ((0, 1), ()))
        ranks = slow(*case, 60)[1]
        whole, rank, helper = ranks[0]
        for core in ((), 0, None, "sure", [], {}, ranks, Likes(), Touchy()):
            for wrap in (in_tuple, in_list, in_pair):
                deep = nested(34 if wrap is not in_pair else 16, wrap, core)
                for thing in (deep, (deep,), ranks + (deep,), ((deep, rank, helper),), ((whole, deep, helper),),
                              ((whole, rank, deep),), (((deep, ()), rank, helper),),
                              (((whole[0], deep), rank, helper),)):
                    self.takes(case, thing, False)


class ShowsDodge(unittest.TestCase):
    def takes(self, case, way, turn, asked):
        self.assertIs(shows_dodge(*case, way, turn), asked, (case, way, turn))

    def test_what_slow_tells(self):
        many = 0
        for case, (word, way, turn) in told("dodge", 200, 131):
            many += 1
            self.takes(case, way, turn, True)
            self.takes(case, way + turn, turn, True)
            self.takes(case, way, turn + turn, True)
            self.takes(case, way + turn[:1], turn[1:] + turn[:1], True)
        self.assertGreater(many, 100)

    def test_written_out(self):
        case = (lane(2), REST, ((0, 1), ()))
        for way in ((), ((0,),), ((0, 1), (1,)), ((0,),) * 500):
            self.takes(case, way, ((0, 1),), True)
            self.takes(case, way, ((0,), (1,)), True)
            self.takes(case, way, ((1,), (0,), (0,)), True)
            self.takes(case, way, ((0,),), False)
            self.takes(case, way, ((1,), (1,)), False)
            self.takes(case, way, (), False)

    def test_a_round_that_does_not_lead_back(self):
        case = (ring(4), ON, ((0, 2), ()))
        self.takes(case, ((0, 1),), ((0, 1),) * 4, True)
        self.takes(case, (), ((0, 1),) * 4, False)
        for many in (1, 2, 3, 5):
            self.takes(case, ((0, 1),), ((0, 1),) * many, False)
        self.takes(case, ((0, 1),), ((0, 1),) * 8, True)

    def test_a_met_whole_on_the_way_or_on_the_round(self):
        # Walker 0 goes on to walker 1 and beyond: met on the way, and apart again.
        case = (ring(3), ON, ((0, 1), ()))
        self.takes(case, ((0, 1),), ((0, 1),) * 3, True)
        self.takes(case, ((0,), (0,)), ((0, 1),) * 3, False)
        self.takes(case, ((0, 1),), ((0,),) * 3 + ((1,),) * 3, False)
        self.takes(case, ((0, 1), (0,)), ((0,),) * 3 + ((1,),) * 3, False)
        # Begun met, or come to a meeting at the end.
        self.takes((ring(3), ON, ((0,), ())), (), ((0,),) * 3, False)
        self.takes((ring(3), REST, ((0,), ())), (), ((0,),), False)
        self.takes((ring(3), ON, ((0, 1), ())), ((0,),), ((0, 1),) * 3, False)

    def test_choices_that_are_none(self):
        case = (lane(3), REST, ((0, 1, 2), ()))
        good = (0, 1, 2)
        self.takes(case, (good,), (good,), True)
        for choice in ((), (1, 0), (0, 0), (0, 3), (3,), (-1,), (-1, 0), (0, 2, 1), (0, 1, 1), [0], (True,), (False, 1),
                       (0, True), ("0",), (None,), 0, None, "0", ((0,),), {0}, (10 ** 30,)):
            for at in range(3):
                row = (good,) * at + (choice,) + (good,) * (2 - at)
                self.takes(case, row, (good,), False)
                self.takes(case, (), row, False)
                self.takes(case, (good,), row, False)

    def test_one_part_otherwise_at_any_place(self):
        verdicts = []
        for case, (word, way, turn) in told("dodge", 60, 132):
            choices = sets_of(len(case[2][0]))[1:]
            pairs = []
            for k in range(len(way)):
                pairs += [(way[:k] + way[k + 1:], turn), (way[:k] + (way[k],) + way[k:], turn)]
                pairs += [(way[:k] + (choice,) + way[k + 1:], turn) for choice in choices]
            for k in range(len(turn)):
                pairs += [(way, turn[:k] + turn[k + 1:]), (way, turn[:k] + (turn[k],) + turn[k:])]
                pairs += [(way, turn[:k] + (choice,) + turn[k + 1:]) for choice in choices]
            pairs += [(turn, way), ((), turn), (way, way), (way[:-1], turn)]
            for one, other in pairs:
                asked = dodge_by_words(*case, one, other)
                verdicts.append(asked)
                self.takes(case, one, other, asked)
        self.assertGreater(verdicts.count(True), 100)
        self.assertGreater(verdicts.count(False), 500)

    def test_drawn_choices(self):
        dice = Dice(133)
        verdicts = []
        for case in cases(Dice(134), 200):
            choices = sets_of(len(case[2][0]))[1:]
            for _ in range(12):
                way = tuple(dice.pick(choices) for _ in range(dice.roll(4)))
                turn = tuple(dice.pick(choices) for _ in range(dice.roll(5)))
                asked = dodge_by_words(*case, way, turn)
                verdicts.append(asked)
                self.takes(case, way, turn, asked)
        self.assertGreater(verdicts.count(True), 100)
        self.assertGreater(verdicts.count(False), 500)

    def test_other_kinds_at_every_depth(self):
        case = (lane(2), REST, ((0, 1), ()))
        way, turn = ((0,), (0, 1)), ((0,), (0, 1))
        self.takes(case, way, turn, True)
        for thing in changed(way, other_kinds):
            self.takes(case, thing, turn, False)
            self.takes(case, way, thing, False)

    def test_things_of_all_kinds(self):
        case = (lane(2), REST, ((0, 1), ()))
        turn = ((0, 1),)
        for thing in strange_things():
            self.takes(case, thing, turn, type(thing) is tuple and thing == ())
            self.takes(case, (), thing, False)
            self.takes(case, (thing,), turn, False)
            self.takes(case, (), turn + (thing,), False)
            self.takes(case, (), (thing,) + turn, False)
            self.takes(case, thing, thing, False)
            # The whole numbers 0 and 1 are walkers' numbers in their places.
            good = type(thing) is int and thing in (0, 1)
            self.takes(case, ((thing,),), turn, good)
            self.takes(case, (), ((thing,),) + turn, good)

    def test_nested_forty_deep(self):
        case = (lane(2), REST, ((0, 1), ()))
        turn = ((0, 1),)
        for core in ((), 0, None, "dodge", [], {}, turn, Likes(), Touchy()):
            for wrap in (in_tuple, in_list, in_pair):
                deep = nested(36 if wrap is not in_pair else 17, wrap, core)
                for thing in (deep, (deep,), ((deep,),), turn + (deep,), ((0, deep),)):
                    self.takes(case, thing, turn, False)
                    self.takes(case, (), thing, False)
                    self.takes(case, thing, thing, False)


class Holds(unittest.TestCase):
    def test_never_both(self):
        """What is sure by some ranks is dodged by no choices, and the other way about."""
        dice = Dice(135)
        for case, (word, ranks) in told("sure", 80, 136):
            choices = sets_of(len(case[2][0]))[1:]
            for _ in range(30):
                way = tuple(dice.pick(choices) for _ in range(dice.roll(3)))
                turn = tuple(dice.pick(choices) for _ in range(1 + dice.roll(4)))
                self.assertIs(shows_dodge(*case, way, turn), False)
        for case, answer in told("dodge", 60, 137):
            wholes = slow_walked(*case, answer[1] + answer[2])
            for helper in range(len(case[2][0])):
                self.assertIs(shows_sure(*case, tuple((whole, 0, helper) for whole in set(wholes))), False)

    def test_no_ranks_of_a_standing_told_never(self):
        dice = Dice(138)
        found = 0
        for web in cover_webs()[:5] + small_webs(3, 4):
            for _ in range(8):
                standing = drawn_standing(dice, web)
                machine = drawn_machine(dice, dice.pick(ALL_EYES), 1, dice.pick([("leave",), HANDS]))
                if len(standing[0]) <= 3 and never(web, standing, is_quiet(machine, len(standing[0]))):
                    found += 1
                    start = begun(standing)
                    wholes = {start}
                    for _ in range(6):
                        wholes |= {beat_by_words(web, machine, whole, choice) for whole in list(wholes)[:20]
                                   for choice in sets_of(len(standing[0]))[1:]}
                    for helper in range(len(standing[0])):
                        apart = [whole for whole in sorted(wholes) if not is_met(whole)]
                        things = tuple((whole, rank, helper) for rank, whole in enumerate(apart))
                        self.assertIs(shows_sure(web, machine, standing, things), False)
        self.assertGreater(found, 10)


if __name__ == "__main__":
    unittest.main()
