"""Walks: doors taken one behind the other."""

from ringmeet.things import stops


def led(web, room, walk):
    """Tell the room that a walk leads to, None where a door isn't there."""
    passed = stops(web, room, walk)
    if len(passed) < len(walk):
        return None
    return passed[-1][0] if passed else room


def way_back(web, room, walk):
    """Tell the walk back by the doors come by, of a walk that leads somewhere."""
    return tuple([back for there, back in stops(web, room, walk)[::-1]])


def ways(web, room):
    """Tell for each room the shortest, of these the least walk there, None where there is none."""
    found = {room: ()}
    queue = [room]
    at = 0
    # Rooms stand in the queue by length, then by order of their walks, so the first walk to a room is its least.
    while at < len(queue):
        here = queue[at]
        for door, (there, back) in enumerate(web[here]):
            if there not in found:
                found[there] = found[here] + (door,)
                queue.append(there)
        at += 1
    return tuple([found.get(other) for other in range(len(web))])
