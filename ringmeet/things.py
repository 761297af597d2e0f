"""What several modules need in common: looks at things of any kind, and steps through doors."""


def is_whole(thing):
    """Tell whether a thing is a whole number; Python counts truths as ints, the document doesn't."""
    return isinstance(thing, int) and not isinstance(thing, bool)


def is_below(thing, bound):
    """Tell whether a thing is a whole number from 0 on, below the bound."""
    return is_whole(thing) and 0 <= thing < bound


def is_tuple_of(thing, many):
    """Tell whether a thing is a tuple of so many things."""
    return isinstance(thing, tuple) and len(thing) == many


def is_headed(thing, word, many):
    """Tell whether a thing is a tuple of so many things, the first of them this text."""
    return is_tuple_of(thing, many) and isinstance(thing[0], str) and thing[0] == word


def is_rising(things):
    """Tell whether each of some things that can be compared is less than the next one."""
    return all([things[at] < things[at + 1] for at in range(len(things) - 1)])


def stops(web, room, walk):
    """Tell (room, door come in by) for each step of a walk, ending ahead of a door that isn't there."""
    found = []
    here = room
    for door in walk:
        if not 0 <= door < len(web[here]):
            return tuple(found)
        here, back = web[here][door]
        found.append((here, back))
    return tuple(found)
