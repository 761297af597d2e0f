"""Pairing: one machine for all pairs of walkers, in rooms of unlike colours of a web, that don't chalk."""

from ringmeet.drafts import Draft
from ringmeet.placing import placed, ranked
from ringmeet.standings import chalk_signs
from ringmeet.walks import ways

EYES = ("came", "doors")


def pairer(web):
    """Tell (machine, beats): by then two walkers from rooms of unlike colours meet."""
    ranks = ranked(web, chalk_signs(web, ()))
    starts = [ranks.index(rank) for rank in range(len(set(ranks)))]
    draft = Draft(web, (), EYES)
    ends = placed(draft, starts)
    passed = max([beats for walker, beats in ends.values()])
    # Of two, one is of another colour than the last, so the last needn't go.
    for start in starts[:-1]:
        walker, beats = ends[start]
        waiting = [None for k in range(passed - beats)]
        walk = tour(web, like_rooms(ranks, walker[0]))
        draft.rest(draft.lead_along(walker, waiting + walk))
        passed += len(walk)
    draft.rest(ends[starts[-1]][0])
    return (draft.made(), passed)


def like_rooms(ranks, room):
    """Tell all rooms of one room's rank."""
    return [other for other, rank in enumerate(ranks) if rank == ranks[room]]


def tour(web, starts):
    """Tell one walk that leads through all rooms from each of some rooms of one colour."""
    walk = []
    heres = list(starts)
    lacking = [[room for room in range(len(web)) if room != start] for start in starts]
    while any(lacking):
        for door in least_way(web, heres, lacking):
            walk.append(door)
            heres = [web[here][door][0] for here in heres]
            lacking = [[room for room in rooms if room != here] for here, rooms in zip(heres, lacking)]
    return walk


def least_way(web, heres, lacking):
    """Tell the shortest, of these the least walk that leads from one of some rooms to one it lacks."""
    found = [ways(web, here)[room] for here, rooms in zip(heres, lacking) for room in rooms]
    return min(found, key=lambda walk: (len(walk), walk))
