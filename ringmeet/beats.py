"""Beats: what all walkers do at once."""

from ringmeet.machines import PARTS, deed_of


def begun(standing):
    """Tell the whole of a standing at its beginning."""
    rooms, chalk = standing
    return (tuple([(room, 0, 0) for room in rooms]), chalk)


def sight_of(web, eyes, whole, k):
    """Tell what walker k sees with these eyes."""
    walkers, chalk = whole
    room, came, mood = walkers[k]
    here = [other for other in walkers if other[0] == room]
    parts = {
        "came": came,
        "chalk": 1 if room in chalk else 0,
        "doors": len(web[room]),
        "others": 1 if len(here) > 1 else 0,
    }
    return tuple([parts[eye] if eye in eyes else None for eye, many in PARTS])


def wants(web, eyes, whole):
    """Tell for each walker the (mood, sight) whose row it wants."""
    return [(walker[2], sight_of(web, eyes, whole, k)) for k, walker in enumerate(whole[0])]


def beat(web, machine, whole):
    """Tell the whole behind one beat of a machine."""
    wanted = wants(web, machine[0], whole)
    return moved(web, whole, [deed_of(machine, mood, sight) for mood, sight in wanted])


def moved(web, whole, deeds):
    """Tell the whole behind one deed of each walker: first the hands, then the steps."""
    walkers, chalk = whole
    behind = [stepped(web, walker, deed) for walker, deed in zip(walkers, deeds)]
    return (tuple(behind), handled(whole, deeds))


def handled(whole, deeds):
    """Tell the chalked rooms behind the hands of each walker's deed."""
    walkers, chalk = whole
    marked = [walker[0] for walker, deed in zip(walkers, deeds) if deed[1] == "mark"]
    wiped = [walker[0] for walker, deed in zip(walkers, deeds) if deed[1] == "wipe"]
    left = [room for room in chalk if room not in wiped]
    # What is marked counts behind what is wiped, so that a room where both are done is chalked.
    return tuple(sorted(set(left + marked)))


def stepped(web, walker, deed):
    """Tell a walker behind the step of its deed."""
    room, came, past = walker
    mood, hand, step = deed
    if step is None or step >= len(web[room]):
        return (room, came, mood)
    there, back = web[room][step]
    return (there, 1 + back, mood)


def is_met(whole):
    """Tell whether all walkers are in one room."""
    first = whole[0][0][0]
    return all([room == first for room, came, mood in whole[0]])
