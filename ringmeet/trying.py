"""Trying: a field walked by the rows there are, and by no others."""

from ringmeet.beats import begun, is_met, moved, wants


def tried(field, eyes, rows, chalk, beats):
    """Tell how a field goes by a dict of rows, with at most so many rooms chalked, in at most so many beats.

    ("met", t): they meet behind t beats; ("fails", t): it is sure behind t beats that they don't as asked;
    ("wants", key): the first row that is wanted and isn't there.
    """
    told, state = tried_on(field[0], at_first(field), eyes, rows, (chalk, beats))
    return told


def at_first(field):
    """Tell the state (whole, beats passed) in which a field begins."""
    return (begun(field[1]), 0)


def tried_on(web, state, eyes, rows, bounds):
    """Tell how it goes from a state on, as tried tells it, and the state in which that is known."""
    whole, passed = state
    chalk, beats = bounds
    while len(whole[1]) <= chalk and not is_met(whole) and passed < beats:
        wanted = wants(web, eyes, whole)
        lacking = [key for key in wanted if key not in rows]
        if lacking:
            return (("wants", lacking[0]), (whole, passed))
        whole = moved(web, whole, [rows[key] for key in wanted])
        passed += 1
    # Too much chalk fails, even where they are met in that very whole.
    word = "fails" if len(whole[1]) > chalk or not is_met(whole) else "met"
    return ((word, passed), (whole, passed))
