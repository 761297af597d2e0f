"""Slow: whether a machine brings all together however slow each walker is."""

from ringmeet.beats import begun, is_met
from ringmeet.knots import knots
from ringmeet.slowbeats import leads


def slow(web, machine, standing, most):
    """Tell ("sure", ranks), ("dodge", way, round), or ("open", None) where more than most wholes can be come to."""
    start = begun(standing)
    if is_met(start):
        return ("sure", ())
    wholes, rows = explored(web, machine, start, most)
    if len(wholes) > most:
        return ("open", None)
    many = len(start[0])
    parts = knots([[there for choice, there in row] for row in rows])
    for part in parts:
        # Each lead within a knot can be taken again and again: where all walkers stand in some, that is fair.
        if len(standing_in(rows, part)) == many:
            return ("dodge", way_to(rows, 0, part[0]), round_through(rows, part, many))
    return ("sure", ranks_of(wholes, rows, parts, many))


def explored(web, machine, start, most):
    """Tell the wholes that aren't met and are come to, and for each of them its leads (choice, number) among them.

    Where there are more than most, some of both may be lacking.
    """
    numbers = {start: 0}
    wholes = [start]
    rows = []
    while len(rows) < len(wholes) <= most:
        row = []
        for choice, behind in leads(web, machine, wholes[len(rows)]):
            if is_met(behind):
                continue
            if behind not in numbers:
                numbers[behind] = len(wholes)
                wholes.append(behind)
            row.append((choice, numbers[behind]))
        rows.append(row)
    return (wholes, rows)


def within(rows, part):
    """Tell the leads (number, choice, number behind) from a part's numbers to its own."""
    inside = {number: True for number in part}
    return [(number, choice, there) for number in part for choice, there in rows[number] if there in inside]


def standing_in(rows, part):
    """Tell the walkers that stand in some lead within a part."""
    return sorted(set([walker for number, choice, there in within(rows, part) for walker in choice]))


def way_to(rows, start, goal):
    """Tell the choices of a shortest way from a number to another one that is come to from there."""
    found = {start: ()}
    queue = [start]
    at = 0
    while goal not in found:
        for choice, there in rows[queue[at]]:
            if there not in found:
                found[there] = found[queue[at]] + (choice,)
                queue.append(there)
        at += 1
    return found[goal]


def round_through(rows, part, many):
    """Tell the choices of a way through a knot from its first number back to it, in which each walker stands."""
    inner = within(rows, part)
    here = part[0]
    found = ()
    for walker in range(many):
        if not any([walker in choice for choice in found]):
            # A way from one number of a knot to another never leaves it: what lies between is come to from both.
            number, choice, there = [lead for lead in inner if walker in lead[1]][0]
            found += way_to(rows, here, number) + (choice,)
            here = there
    return found + way_to(rows, here, part[0])


def ranks_of(wholes, rows, parts, many):
    """Tell the rising tuple of (whole, rank, helper): all of a knot have one rank and one helper."""
    ranks = {}
    found = []
    # Knots stand ahead of those that they lead to, so the last ones are ranked first.
    for part in parts[::-1]:
        below = [ranks[there] for number in part for choice, there in rows[number] if there in ranks]
        rank = 1 + max(below, default=-1)
        standing = standing_in(rows, part)
        helper = min([walker for walker in range(many) if walker not in standing])
        for number in part:
            ranks[number] = rank
            found.append((wholes[number], rank, helper))
    return tuple(sorted(found))
