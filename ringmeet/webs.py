"""Webs: rooms with doors that lead to doors."""

from ringmeet.things import is_tuple_of, is_whole
from ringmeet.walks import ways

MOST_ROOMS = 8
MOST_DOORS = 4


def is_web(thing):
    """Tell whether a thing, of whatever kind, is a web."""
    # Each look trusts what the one ahead of it has found.
    return has_form(thing) and leads_back(thing) and hangs_together(thing)


def has_form(thing):
    """Tell whether a thing is a tuple of rooms, wherever their doors lead."""
    if not isinstance(thing, tuple) or not 1 <= len(thing) <= MOST_ROOMS:
        return False
    return all([is_room(room) for room in thing])


def is_room(thing):
    """Tell whether a thing is a tuple of doors, wherever they lead."""
    if not isinstance(thing, tuple) or len(thing) > MOST_DOORS:
        return False
    return all([is_tuple_of(door, 2) and is_whole(door[0]) and is_whole(door[1]) for door in thing])


def leads_back(rooms):
    """Tell whether each door leads to another one that leads back by it."""
    return all([is_paired(rooms, room, door) for room in range(len(rooms)) for door in range(len(rooms[room]))])


def is_paired(rooms, room, door):
    """Tell whether a door leads to another one that leads back by it."""
    there, back = rooms[room][door]
    if (there, back) == (room, door) or not 0 <= there < len(rooms):
        return False
    return 0 <= back < len(rooms[there]) and rooms[there][back] == (room, door)


def hangs_together(rooms):
    """Tell whether all rooms can be come to from room 0."""
    return None not in ways(rooms, 0)


def ring(many):
    """Tell the web in which door 0 of each room leads to door 1 of the next one, round about."""
    return tuple([(((room + 1) % many, 1), ((room - 1) % many, 0)) for room in range(many)])


def lane(many):
    """Tell the web of rooms in a row, the last door of each leading to door 0 of the next one."""
    return tuple([lane_room(room, many) for room in range(many)])


def lane_room(room, many):
    """Tell the doors of one room of a lane."""
    # The first room lacks a door back, so the door that leads on from it is 0, from all others 1.
    back = ((room - 1, min(room - 1, 1)),) if room > 0 else ()
    onward = ((room + 1, 0),) if room < many - 1 else ()
    return back + onward
