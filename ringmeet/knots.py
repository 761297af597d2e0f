"""Knots: parts of a net of numbers, within which each is come to from each other one.

A net is a list that tells for each number, from 0 on, the list of those that it leads to.
"""


def knots(net):
    """Tell the knots of a net in which all is come to from 0: lists, each ahead of those that it leads to."""
    back = turned_back(net)
    known = {}
    found = []
    # By ways back from a number that is left last, only its own knot is come to, or what is known already.
    for number in left_last(net)[::-1]:
        if number not in known:
            found.append(gathered(back, number, known))
    return found


def turned_back(net):
    """Tell the net in which all leads go the other way."""
    back = [[] for row in net]
    for number, row in enumerate(net):
        for there in row:
            back[there].append(number)
    return back


def left_last(net):
    """Tell the numbers in the order in which a walk from 0, that goes back only where all is known, leaves them."""
    order = []
    known = {0: True}
    way = [0]
    untried = [list(row) for row in net]
    while way:
        if untried[way[-1]]:
            there = untried[way[-1]].pop()
            if there not in known:
                known[there] = True
                way.append(there)
        else:
            order.append(way.pop())
    return order


def gathered(net, first, known):
    """Tell all that is come to from a number by what isn't known yet, the number first; it is known then."""
    found = [first]
    known[first] = True
    at = 0
    while at < len(found):
        for there in net[found[at]]:
            if there not in known:
                known[there] = True
                found.append(there)
        at += 1
    return found
