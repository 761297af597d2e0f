"""Slow looks: at what shows that slow walkers are sure to meet, or that they can be kept apart."""

from ringmeet.beats import begun, is_met
from ringmeet.machines import MOODS
from ringmeet.slowbeats import leads, walked_on
from ringmeet.standings import are_rooms
from ringmeet.things import is_below, is_rising, is_tuple_of, is_whole


def shows_sure(web, machine, standing, thing):
    """Tell whether a thing, of whatever kind, is ranks by which all fair rows from the standing meet."""
    if not isinstance(thing, tuple) or not all([is_ranked(web, len(standing[0]), part) for part in thing]):
        return False
    ranks = {whole: (rank, helper) for whole, rank, helper in thing}
    start = begun(standing)
    if len(ranks) < len(thing) or not (is_met(start) or start in ranks):
        return False
    return all([goes_down(web, machine, whole, ranks) for whole in ranks])


def is_ranked(web, many, thing):
    """Tell whether a thing is (whole, rank, helper), the whole of so many walkers that aren't met."""
    if not is_tuple_of(thing, 3):
        return False
    whole, rank, helper = thing
    if not is_whole(rank) or rank < 0 or not is_below(helper, many):
        return False
    return is_whole_of(web, many, whole) and not is_met(whole)


def is_whole_of(web, many, thing):
    """Tell whether a thing is (walkers, chalk), of so many walkers in the web."""
    if not is_tuple_of(thing, 2) or not is_tuple_of(thing[0], many):
        return False
    return all([is_walker(web, walker) for walker in thing[0]]) and are_rooms(web, thing[1])


def is_walker(web, thing):
    """Tell whether a thing is (room, came, mood)."""
    if not is_tuple_of(thing, 3) or not is_below(thing[0], len(web)):
        return False
    room, came, mood = thing
    return is_below(came, len(web[room]) + 1) and is_below(mood, MOODS)


def goes_down(web, machine, whole, ranks):
    """Tell whether each choice leads to a meeting, to a lesser rank, or, without the helper, to its like."""
    rank, helper = ranks[whole]
    for choice, behind in leads(web, machine, whole):
        if is_met(behind):
            continue
        if behind not in ranks:
            return False
        if ranks[behind][0] >= rank and (helper in choice or ranks[behind] != (rank, helper)):
            return False
    return True


def shows_dodge(web, machine, standing, way, again):
    """Tell whether things, of whatever kind, are choices by which the walkers never meet: a way, and a round."""
    many = len(standing[0])
    if not are_choices(many, way) or not are_choices(many, again):
        return False
    if not all([any([walker in choice for choice in again]) for walker in range(many)]):
        return False
    wholes = walked_on(web, machine, begun(standing), way + again)
    return wholes[len(way)] == wholes[-1] and not any([is_met(whole) for whole in wholes])


def are_choices(many, thing):
    """Tell whether a thing is a tuple of choices of so many walkers."""
    return isinstance(thing, tuple) and all([is_choice(many, choice) for choice in thing])


def is_choice(many, thing):
    """Tell whether a thing is a rising tuple of walkers' numbers, one at least."""
    if not isinstance(thing, tuple) or len(thing) == 0:
        return False
    return all([is_below(walker, many) for walker in thing]) and is_rising(thing)
