"""Quiet machines, and machines that first mark where they begin."""

from ringmeet.machines import sights


def is_quiet(machine, many):
    """Tell whether a machine leaves chalk as it is and so many walkers see nothing of one another."""
    eyes, rows = machine
    # Of two walkers, one that sees the other has met it already.
    return ("others" not in eyes or many <= 2) and all([deed[1] == "leave" for key, deed in rows])


def marking(machine):
    """Tell the machine that first marks its room and stays, then goes as the other from its beginning."""
    eyes, rows = machine
    first = [((0, sight), (1, "mark", None)) for sight in sights(eyes)]
    return (eyes, tuple(first + [moods_on(row) for row in rows]))


def moods_on(row):
    """Tell a row with its moods called one more, so that mood 0 is free for the first beat."""
    (mood, sight), (behind, hand, step) = row
    return ((mood + 1, sight), (behind + 1, hand, step))
