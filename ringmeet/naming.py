"""Webs with their rooms or their doors numbered otherwise."""


def renamed(web, order):
    """Tell the web in which room order[r] is what room r was."""
    rooms = {}
    for room, doors in enumerate(web):
        rooms[order[room]] = tuple([(order[there], back) for there, back in doors])
    return in_order(rooms)


def redoored(web, orders):
    """Tell the web in which door orders[r][p] of room r is what its door p was."""
    return tuple([redoored_room(doors, orders[room], orders) for room, doors in enumerate(web)])


def redoored_room(doors, order, orders):
    """Tell one room's doors, its own and those they lead to numbered by their orders."""
    found = {}
    for door, (there, back) in enumerate(doors):
        found[order[door]] = (there, orders[there][back])
    return in_order(found)


def in_order(numbered):
    """Tell the values of a dict as a tuple, by its keys, the numbers from 0 on."""
    return tuple([numbered[number] for number in range(len(numbered))])
