"""Verdicts: whether walkers can be brought together, and how."""

from ringmeet.gathering import gatherer
from ringmeet.nevers import never
from ringmeet.pairing import EYES
from ringmeet.placing import meeting, ranked
from ringmeet.quiet import marking
from ringmeet.standings import chalk_signs


def verdict(web, rooms, chalking):
    """Tell ("never", paper) or ("meet", machine, beats) of walkers in some rooms, that may chalk or not."""
    paper = never(web, (rooms, ()), not chalking)
    if paper is not None:
        return ("never", paper)
    if chalking:
        machine, beats = gatherer(((web, (rooms, rooms)),))
        return ("meet", marking(machine), beats + 1)
    return ("meet",) + quiet_meeting(web, rooms)


def quiet_meeting(web, rooms):
    """Tell (machine, beats) for walkers that don't chalk, no two of them in rooms of one colour."""
    # A walker that has learned its colour knows its room, even where rooms look alike: no other walker has that
    # colour, and the machine is for these rooms alone. So no verdict stays open.
    ranks = ranked(web, chalk_signs(web, ()))
    return meeting(web, (), EYES, sorted(rooms, key=lambda room: ranks[room]))
