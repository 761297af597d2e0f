"""Colours: what looks alike for ever."""

from ringmeet.things import is_tuple_of, is_whole, stops


def seen(web, signs, room, walk):
    """Tell what is seen along a walk: (0 or 1 + the door come in by, doors, sign) of each room."""
    first = (0, len(web[room]), signs[room])
    behind = [(1 + back, len(web[there]), signs[there]) for there, back in stops(web, room, walk)]
    return (first,) + tuple(behind)


def is_colouring(web, signs, thing):
    """Tell whether a thing, of whatever kind, is a colouring for the web and the signs."""
    if not is_tuple_of(thing, len(web)) or not all([is_whole(number) for number in thing]):
        return False
    # A look bears its room's own number: as many looks as numbers means that no number has two looks.
    return len(set(looks(web, signs, thing))) == len(set(thing))


def looks(web, signs, colours):
    """Tell for each room its number, how many doors and which sign it has, and what its doors lead to."""
    found = []
    for room, doors in enumerate(web):
        led_to = tuple([(colours[there], back) for there, back in doors])
        found.append((colours[room], signs[room], led_to))
    return found


def colouring(web, signs):
    """Tell the colouring by which all rooms are of one colour that are so by some colouring."""
    return refined(web, signs, numbered)


def refined(web, signs, numbering):
    """Tell that colouring, its colours called as the numbering calls the rooms' looks."""
    colours = tuple([0 for room in web])
    finer = numbering(looks(web, signs, colours))
    while finer != colours:
        colours = finer
        finer = numbering(looks(web, signs, colours))
    return colours


def numbered(things):
    """Tell for each thing the number of its like, from 0 as they come first."""
    numbers = {}
    for thing in things:
        if thing not in numbers:
            numbers[thing] = len(numbers)
    return tuple([numbers[thing] for thing in things])


def all_unlike(colours):
    """Tell whether no number stands twice."""
    return len(set(colours)) == len(colours)
