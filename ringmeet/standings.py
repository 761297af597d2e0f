"""Standings: the rooms with a walker each, and those that are chalked."""

from ringmeet.things import is_below, is_rising, is_tuple_of
from ringmeet.turns import turned, turns


def is_standing(web, thing):
    """Tell whether a thing, of whatever kind, is a standing in the web."""
    if not is_tuple_of(thing, 2) or not are_rooms(web, thing[0]) or not are_rooms(web, thing[1]):
        return False
    return len(thing[0]) > 0


def are_rooms(web, thing):
    """Tell whether a thing is a rising tuple of rooms."""
    if not isinstance(thing, tuple) or not all([is_below(room, len(web)) for room in thing]):
        return False
    return is_rising(thing)


def chalk_signs(web, chalk):
    """Tell the signs that are 1 where a room is chalked, else 0."""
    return tuple([1 if room in chalk else 0 for room in range(len(web))])


def all_signs(web, standing):
    """Tell the signs of the chalk, and 2 more where there is a walker."""
    rooms, chalk = standing
    signs = chalk_signs(web, chalk)
    return tuple([sign + 2 if room in rooms else sign for room, sign in enumerate(signs)])


def standings(web, many):
    """Tell the rising tuple of all rising tuples of so many rooms that no turn leads to a lesser one."""
    orders = turns(web)
    return tuple([rooms for rooms in some_rooms(len(web), many) if is_least(orders, rooms)])


def is_least(orders, rooms):
    """Tell whether no turn leads the rooms to lesser ones."""
    return all([turned(order, rooms) >= rooms for order in orders])


def some_rooms(bound, many):
    """Tell all rising tuples of so many rooms below the bound, in order."""
    found = [()]
    for k in range(many):
        found = [rooms + (room,) for rooms in found for room in range(rooms[-1] + 1 if rooms else 0, bound)]
    return found
