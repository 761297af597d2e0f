"""Fewest: the fewest moods and the least chalk by which an errand is done, with books for all fewer."""

from ringmeet.booklooks import shows_none
from ringmeet.errands import does, fits
from ringmeet.machines import is_machine
from ringmeet.seeking import sought
from ringmeet.things import is_below, is_headed, is_tuple_of

# Where a bound stands in an errand, and the least it may be.
MOODS_BOUND = (4, 1)
CHALK_BOUND = (5, 0)


def fewest(errand, most):
    """Tell the fewest moods by which an errand is done, a machine with so many, and the books for fewer."""
    return least(errand, most, MOODS_BOUND)


def least_chalk(errand, most):
    """Tell the least chalk by which an errand is done, a machine with so much, and the books for less."""
    return least(errand, most, CHALK_BOUND)


def least(errand, most, bound):
    """Tell ("does", many, machine, books), ("none", books) or ("open", many) of one of an errand's bounds."""
    at, first = bound
    books = []
    for many in range(first, errand[at] + 1):
        word, thing = sought(bounded(errand, at, many), most)
        if word == "does":
            return ("does", many, thing, tuple(books))
        if word == "open":
            return ("open", many)
        books.append(thing)
    return ("none", tuple(books))


def bounded(errand, at, many):
    """Tell the errand with another bound."""
    return errand[:at] + (many,) + errand[at + 1:]


def shows_fewest(errand, thing):
    """Tell whether a thing, of whatever kind, shows the fewest moods by which an errand is done."""
    return shows_least(errand, thing, MOODS_BOUND)


def shows_least_chalk(errand, thing):
    """Tell whether a thing, of whatever kind, shows the least chalk by which an errand is done."""
    return shows_least(errand, thing, CHALK_BOUND)


def shows_least(errand, thing, bound):
    """Tell whether a thing is ("does", many, machine, books) for the least many of one of an errand's bounds."""
    at, first = bound
    if not is_headed(thing, "does", 4):
        return False
    word, many, machine, books = thing
    if not is_below(many, errand[at] + 1) or many < first or not is_tuple_of(books, many - first):
        return False
    if not is_done(bounded(errand, at, many), machine):
        return False
    return all([shows_none(bounded(errand, at, first + k), book) for k, book in enumerate(books)])


def is_done(errand, thing):
    """Tell whether a thing is a machine that fits and does an errand."""
    return is_machine(thing) and fits(errand, thing) and does(errand, thing)[0] == "does"
