"""Errands: fields from which a machine with few moods and little chalk shall bring all together."""

from ringmeet.machines import STEPS, are_eyes, is_hand
from ringmeet.nevers import never
from ringmeet.standings import is_standing, standings
from ringmeet.things import is_below, is_rising, is_tuple_of
from ringmeet.trying import tried
from ringmeet.webs import is_web

MOST_FIELDS = 6
MOST_MOODS = 3
MOST_CHALK = 8
MOST_BEATS = 40


def is_errand(thing):
    """Tell whether a thing, of whatever kind, is an errand."""
    if not is_tuple_of(thing, 7):
        return False
    fields, eyes, hands, steps, moods, chalk, beats = thing
    if not are_fields(fields) or not are_eyes(eyes) or not are_hands(hands) or not are_steps(steps):
        return False
    return are_bounds(moods, chalk, beats)


def are_fields(thing):
    """Tell whether a thing is a tuple of as many fields as an errand may have."""
    if not isinstance(thing, tuple) or not 1 <= len(thing) <= MOST_FIELDS:
        return False
    return all([is_field(field) for field in thing])


def is_field(thing):
    """Tell whether a thing is (web, standing)."""
    return is_tuple_of(thing, 2) and is_web(thing[0]) and is_standing(thing[0], thing[1])


def are_hands(thing):
    """Tell whether a thing is a rising tuple of hands, one at least."""
    if not isinstance(thing, tuple) or len(thing) == 0:
        return False
    return all([is_hand(hand) for hand in thing]) and is_rising(thing)


def are_steps(thing):
    """Tell whether a thing is a tuple of steps, None ahead of the doors' numbers, these rising, one at least."""
    if not isinstance(thing, tuple) or len(thing) == 0:
        return False
    if not all([step is None or is_below(step, STEPS) for step in thing]):
        return False
    return is_rising([-1 if step is None else step for step in thing])


def are_bounds(moods, chalk, beats):
    """Tell whether things are how many moods, how much chalk and how many beats an errand may have."""
    if not is_below(moods, MOST_MOODS + 1) or moods == 0:
        return False
    return is_below(chalk, MOST_CHALK + 1) and is_below(beats, MOST_BEATS + 1)


def fields_of(web, many, quiet):
    """Tell all fields of a web without chalk, up to turns, from which so many walkers may meet."""
    fields = [(web, (rooms, ())) for rooms in standings(web, many)]
    return tuple([field for field in fields if never(field[0], field[1], quiet) is None])


def fits(errand, machine):
    """Tell whether a machine has the errand's eyes, and no mood, hand or step but the errand's."""
    fields, eyes, hands, steps, moods, chalk, beats = errand
    if machine[0] != eyes:
        return False
    return all([key[0] < moods and is_among(deed, hands, steps, moods) for key, deed in machine[1]])


def is_among(deed, hands, steps, moods):
    """Tell whether a deed is made of these hands, these steps and so many moods."""
    mood, hand, step = deed
    return mood < moods and hand in hands and step in steps


def does(errand, machine):
    """Tell ("does", t), by when all fields are met, or ("fails", j), the first field that isn't as asked."""
    fields, eyes, hands, steps, moods, chalk, beats = errand
    seeing, rows = machine
    last = 0
    for number, field in enumerate(fields):
        told = tried(field, seeing, dict(rows), chalk, beats)
        if told[0] != "met":
            return ("fails", number)
        last = max(last, told[1])
    return ("does", last)


def deeds(errand, named):
    """Tell the errand's deeds with the named moods and one more, if there is one."""
    fields, eyes, hands, steps, moods, chalk, beats = errand
    return tuple([(mood, hand, step) for mood in range(min(named + 1, moods)) for hand in hands for step in steps])


def is_quiet_field(errand, number):
    """Tell whether the errand's machines leave chalk as it is and walkers of a field see nothing of one another."""
    fields, eyes, hands, steps, moods, chalk, beats = errand
    web, (rooms, chalked) = fields[number]
    return hands == ("leave",) and ("others" not in eyes or len(rooms) <= 2)
