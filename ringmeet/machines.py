"""Machines: what a walker does by its mood and by what it sees."""

from ringmeet.things import is_below, is_rising, is_tuple_of

# The parts of a sight, each by the eye that sees it and by how many numbers it may be.
PARTS = (("came", 5), ("chalk", 2), ("doors", 5), ("others", 2))
HANDS = ("leave", "mark", "wipe")
MOODS = 4000
MOST_ROWS = 4000
STEPS = 4


def is_machine(thing):
    """Tell whether a thing, of whatever kind, is a machine."""
    return is_tuple_of(thing, 2) and are_eyes(thing[0]) and are_rows(thing[0], thing[1])


def are_eyes(thing):
    """Tell whether a thing is a rising tuple of some eyes."""
    return isinstance(thing, tuple) and all([is_eye(eye) for eye in thing]) and is_rising(thing)


def is_eye(thing):
    """Tell whether a thing is one of the four eyes."""
    return isinstance(thing, str) and thing in [eye for eye, many in PARTS]


def are_rows(eyes, thing):
    """Tell whether a thing is a tuple of rows that a machine with these eyes may have."""
    if not isinstance(thing, tuple) or len(thing) > MOST_ROWS:
        return False
    if not all([is_row(eyes, row) for row in thing]):
        return False
    # No two rows bear the same (mood, sight), so they rise just where these do.
    return is_rising([key for key, deed in thing])


def is_row(eyes, thing):
    """Tell whether a thing is ((mood, sight), deed)."""
    return is_tuple_of(thing, 2) and is_key(eyes, thing[0]) and is_deed(thing[1])


def is_key(eyes, thing):
    """Tell whether a thing is (mood, sight)."""
    return is_tuple_of(thing, 2) and is_below(thing[0], MOODS) and is_sight(eyes, thing[1])


def is_sight(eyes, thing):
    """Tell whether a thing is a sight of these eyes."""
    if not is_tuple_of(thing, len(PARTS)):
        return False
    return all([is_below(part, many) if eye in eyes else part is None for part, (eye, many) in zip(thing, PARTS)])


def is_deed(thing):
    """Tell whether a thing is (mood, hand, step)."""
    if not is_tuple_of(thing, 3):
        return False
    mood, hand, step = thing
    return is_below(mood, MOODS) and is_hand(hand) and (step is None or is_below(step, STEPS))


def is_hand(thing):
    """Tell whether a thing is one of the three hands."""
    return isinstance(thing, str) and thing in HANDS


def sights(eyes):
    """Tell the rising tuple of all sights of these eyes."""
    found = [()]
    for eye, many in PARTS:
        parts = list(range(many)) if eye in eyes else [None]
        found = [sight + (part,) for sight in found for part in parts]
    return tuple(found)


def deed_of(machine, mood, sight):
    """Tell the deed of the row for a mood and a sight; where there is none, the mood stays and nothing is done."""
    rows = machine[1]
    at = first_of(rows, mood)
    while at < len(rows) and rows[at][0][0] == mood:
        if rows[at][0][1] == sight:
            return rows[at][1]
        at += 1
    return (mood, "leave", None)


def first_of(rows, mood):
    """Tell how many rows stand ahead of a mood's."""
    # Rows rise, and a machine may have thousands, asked at each beat: so they are halved, not walked.
    low = 0
    high = len(rows)
    while low < high:
        middle = (low + high) // 2
        if rows[middle][0][0] < mood:
            low = middle + 1
        else:
            high = middle
    return low
