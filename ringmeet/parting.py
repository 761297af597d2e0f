"""Walks along which two rooms look unlike."""

from ringmeet.colours import seen
from ringmeet.things import is_whole


def parted(web, signs, one, other):
    """Tell the shortest, of these the least walk that parts two rooms, None where there is none."""
    if looks_unlike(web, signs, one, other, ()):
        return ()
    queue = [((), one, other)]
    known = {(one, other)}
    at = 0
    # Pairs stand in the queue by length, then by order of their walks; both rooms of each have as many doors.
    while at < len(queue):
        walk, here, there = queue[at]
        for door in range(len(web[here])):
            if looks_unlike(web, signs, here, there, (door,)):
                return walk + (door,)
            pair = (web[here][door][0], web[there][door][0])
            if pair not in known:
                known.add(pair)
                queue.append((walk + (door,), pair[0], pair[1]))
        at += 1
    return None


def looks_unlike(web, signs, one, other, walk):
    """Tell whether unlike things are seen along a walk from two rooms."""
    return seen(web, signs, one, walk) != seen(web, signs, other, walk)


def shows_parted(web, signs, one, other, thing):
    """Tell whether a thing, of whatever kind, is a walk along which unlike things are seen from two rooms."""
    if not isinstance(thing, tuple) or not all([is_whole(door) and door >= 0 for door in thing]):
        return False
    return looks_unlike(web, signs, one, other, thing)
