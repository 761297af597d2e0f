"""Nevers: papers by which walkers are never all in one room."""

from ringmeet.colours import all_unlike, colouring, is_colouring
from ringmeet.standings import all_signs, chalk_signs
from ringmeet.things import is_below, is_headed


def never(web, standing, quiet):
    """Tell a paper by which no machine (where quiet: no quiet one) brings all together, None where there is none."""
    colours = colouring(web, all_signs(web, standing))
    if not all_unlike(colours):
        return ("colours", colours)
    return alike(web, standing) if quiet else None


def alike(web, standing):
    """Tell the paper of the first two walkers whose rooms the chalk alone doesn't part, None where there are none."""
    rooms, chalk = standing
    colours = colouring(web, chalk_signs(web, chalk))
    for i in range(len(rooms)):
        for j in range(i + 1, len(rooms)):
            if colours[rooms[i]] == colours[rooms[j]]:
                return ("alike", i, j, colours)
    return None


def shows_never(web, standing, quiet, thing):
    """Tell whether a thing, of whatever kind, is a paper by which they never meet (where quiet: by quiet machines)."""
    if is_headed(thing, "colours", 2):
        return is_colouring(web, all_signs(web, standing), thing[1]) and not all_unlike(thing[1])
    if quiet and is_headed(thing, "alike", 4):
        return shows_alike(web, standing, thing)
    return False


def shows_alike(web, standing, paper):
    """Tell whether a paper ("alike", i, j, colours) shows two walkers that look alike by the chalk alone."""
    rooms, chalk = standing
    word, i, j, colours = paper
    if not is_below(j, len(rooms)) or not is_below(i, j):
        return False
    return is_colouring(web, chalk_signs(web, chalk), colours) and colours[rooms[i]] == colours[rooms[j]]
