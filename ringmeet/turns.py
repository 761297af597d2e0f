"""Turns: a web laid upon itself, door upon like door."""

from ringmeet.colours import all_unlike
from ringmeet.things import is_below, is_tuple_of
from ringmeet.walks import led, ways


def is_turn(web, thing):
    """Tell whether a thing, of whatever kind, is a turn of the web."""
    return is_order(web, thing) and all([is_carried(web, thing, room) for room in range(len(web))])


def is_order(web, thing):
    """Tell whether a thing is a tuple of all rooms, each once."""
    if not is_tuple_of(thing, len(web)):
        return False
    return all([is_below(room, len(web)) for room in thing]) and all_unlike(thing)


def is_carried(web, order, room):
    """Tell whether a room's doors lead on as those of the room that it is turned to."""
    return web[order[room]] == tuple([(order[there], back) for there, back in web[room]])


def turns(web):
    """Tell the rising tuple of all turns of the web."""
    # Where a turn leads room 0, there it leads all that is come to by the same doors.
    walks = ways(web, 0)
    found = [tuple([led(web, room, walk) for walk in walks]) for room in range(len(web))]
    return tuple([order for order in found if is_turn(web, order)])


def turned(turn, rooms):
    """Tell the rising tuple of the rooms to which a turn leads some rooms."""
    return tuple(sorted([turn[room] for room in rooms]))
