"""Slow beats: some walkers step while the others rest."""

from ringmeet.beats import begun, moved, wants
from ringmeet.machines import deed_of
from ringmeet.standings import some_rooms


def slow_beat(web, machine, whole, choice):
    """Tell the whole behind a beat of the walkers in the choice alone."""
    return moved_some(web, whole, deeds_of(web, machine, whole), choice)


def deeds_of(web, machine, whole):
    """Tell for each walker the deed that it does when it steps."""
    return [deed_of(machine, mood, sight) for mood, sight in wants(web, machine[0], whole)]


def moved_some(web, whole, all_deeds, choice):
    """Tell the whole behind the deeds of the walkers in the choice, the others doing nothing."""
    done = []
    for k, (room, came, mood) in enumerate(whole[0]):
        done.append(all_deeds[k] if k in choice else (mood, "leave", None))
    return moved(web, whole, done)


def slow_walked(web, machine, standing, choices):
    """Tell the wholes at first and behind each of some choices."""
    return tuple(walked_on(web, machine, begun(standing), choices))


def walked_on(web, machine, whole, choices):
    """Tell a list of a whole and those behind each of some choices."""
    wholes = [whole]
    for choice in choices:
        wholes.append(slow_beat(web, machine, wholes[-1], choice))
    return wholes


def leads(web, machine, whole):
    """Tell (choice, the whole behind it) for each choice there is."""
    # What is seen doesn't hang on the choice, so the deeds are asked once for all of them.
    all_deeds = deeds_of(web, machine, whole)
    return [(choice, moved_some(web, whole, all_deeds, choice)) for choice in all_choices(len(whole[0]))]


def all_choices(many):
    """Tell all choices of so many walkers: rising tuples of their numbers, one at least."""
    return [choice for size in range(1, many + 1) for choice in some_rooms(many, size)]
