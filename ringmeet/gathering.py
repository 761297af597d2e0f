"""Gathering: one machine that brings all walkers of each of some fields together."""

from ringmeet.colours import all_unlike, colouring
from ringmeet.errors import Alike
from ringmeet.placing import meeting, ranked
from ringmeet.standings import chalk_signs

EYES = ("came", "chalk", "doors")


def gatherer(fields):
    """Tell (machine, beats), refused with Alike where two rooms of a field look alike."""
    for number, (web, standing) in enumerate(fields):
        if not all_unlike(colouring(web, chalk_signs(web, standing[1]))):
            raise Alike(number)
    web, rooms, chalk = beside(fields)
    ranks = ranked(web, chalk_signs(web, chalk))
    return meeting(folded(web, ranks), turned_to(ranks, chalk), EYES, turned_to(ranks, rooms))


def beside(fields):
    """Tell all fields as one that falls apart: its rooms and doors, those with a walker, those that are chalked."""
    all_doors = []
    all_rooms = []
    all_chalk = []
    for web, (rooms, chalk) in fields:
        first = len(all_doors)
        all_doors += [tuple([(first + there, back) for there, back in doors]) for doors in web]
        all_rooms += [first + room for room in rooms]
        all_chalk += [first + room for room in chalk]
    return (tuple(all_doors), tuple(all_rooms), tuple(all_chalk))


def folded(web, ranks):
    """Tell the web in which all rooms of one rank are one room, called by it."""
    # Fields that look alike become one; each keeps all of its rooms, as those look unlike.
    rooms = [ranks.index(rank) for rank in range(len(set(ranks)))]
    return tuple([tuple([(ranks[there], back) for there, back in web[room]]) for room in rooms])


def turned_to(ranks, rooms):
    """Tell the rising tuple of the ranks of some rooms."""
    return tuple(sorted(set([ranks[room] for room in rooms])))
