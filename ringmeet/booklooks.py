"""Books: looks at what shows that no machine of an errand's kind does it."""

from ringmeet.errands import deeds, is_quiet_field
from ringmeet.machines import is_sight
from ringmeet.nevers import shows_never
from ringmeet.things import is_below, is_headed
from ringmeet.trying import tried


def shows_none(errand, thing):
    """Tell whether a thing, of whatever kind, is a book that shows that no fitting machine does the errand."""
    # Books wait in a list, each with the rows asked on its way: a way may be longer than calls should nest.
    waiting = [(thing, {}, 1)]
    while waiting:
        book, rows, named = waiting.pop()
        if is_ask(errand, book, rows, named):
            waiting.extend(branches(errand, book, rows, named))
        elif not is_end(errand, book, rows):
            return False
    return True


def is_ask(errand, book, rows, named):
    """Tell whether a book asks a row that may be asked, with a book for each deed."""
    if not is_headed(book, "ask", 4):
        return False
    word, mood, sight, books = book
    if not is_below(mood, named) or not is_sight(errand[1], sight) or (mood, sight) in rows:
        return False
    return isinstance(books, tuple) and len(books) == len(deeds(errand, named))


def branches(errand, book, rows, named):
    """Tell the book of each deed, with the rows asked on its way and how many moods are named there."""
    word, mood, sight, books = book
    found = []
    for deed, branch in zip(deeds(errand, named), books):
        asked = dict(rows)
        asked[(mood, sight)] = deed
        found.append((branch, asked, max(named, deed[0] + 1)))
    return found


def is_end(errand, book, rows):
    """Tell whether a book ends a way: by a field that fails by the rows asked, or that never meets."""
    fields, eyes, hands, steps, moods, chalk, beats = errand
    if is_headed(book, "fails", 2) and is_below(book[1], len(fields)):
        return tried(fields[book[1]], eyes, rows, chalk, beats)[0] == "fails"
    if is_headed(book, "never", 3) and is_below(book[1], len(fields)):
        web, standing = fields[book[1]]
        return shows_never(web, standing, is_quiet_field(errand, book[1]), book[2])
    return False
