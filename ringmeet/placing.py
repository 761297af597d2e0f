"""Placing: walkers that look unlike learn by walks that part them where they are."""

from ringmeet.colours import refined
from ringmeet.drafts import Draft
from ringmeet.parting import parted
from ringmeet.standings import chalk_signs
from ringmeet.walks import ways


def ranked(web, signs):
    """Tell the colours of the web, numbered by how they look, so that how rooms are numbered doesn't matter."""
    return refined(web, signs, places)


def places(things):
    """Tell for each thing how many unlike ones are less."""
    order = {}
    for thing in sorted(set(things)):
        order[thing] = len(order)
    return tuple([order[thing] for thing in things])


def placed(draft, starts):
    """Give a draft the rows by which walkers from rooms of unlike colours part; tell (walker, beats) by start."""
    signs = chalk_signs(draft.web, draft.chalk)
    ends = {}
    groups = [(0, [(start, (start, 0, 0)) for start in starts])]
    at = 0
    # Doors are paired, so walkers that have seen the same from unlike rooms on are in unlike rooms still.
    while at < len(groups):
        beats, tracks = groups[at]
        for alike in by_sight(draft, tracks):
            if len(alike) == 1:
                start, walker = alike[0]
                ends[start] = (walker, beats)
            else:
                # Behind the first door of the walk that parts two, the rest of it is the walk that parts them.
                door = parted(draft.web, signs, alike[0][1][0], alike[1][1][0])[0]
                groups.append((beats + 1, [(start, draft.lead(walker, door)) for start, walker in alike]))
        at += 1
    return ends


def by_sight(draft, tracks):
    """Tell the tracks (start, walker) in lists, by what the walkers see."""
    groups = {}
    for start, walker in tracks:
        groups.setdefault(draft.sight(walker), []).append((start, walker))
    return list(groups.values())


def meeting(web, chalk, eyes, starts):
    """Tell (machine, beats): by then walkers from rooms of unlike colours are where the first that can be come to is.

    The web may fall apart; those in one part of it come together.
    """
    draft = Draft(web, chalk, eyes)
    ends = placed(draft, starts)
    rooms = [ends[start][0][0] for start in starts]
    last = 0
    for start in starts:
        walker, beats = ends[start]
        walk = way_to_first(web, walker[0], rooms)
        draft.rest(draft.lead_along(walker, walk))
        last = max(last, beats + len(walk))
    return (draft.made(), last)


def way_to_first(web, here, rooms):
    """Tell the way from here to the first of the rooms that can be come to."""
    walks = ways(web, here)
    return [walks[room] for room in rooms if walks[room] is not None][0]
