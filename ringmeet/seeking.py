"""Seeking: a machine that does an errand, or a book that shows that none does."""

from ringmeet.errands import deeds, is_quiet_field
from ringmeet.nevers import never
from ringmeet.trying import at_first, tried_on


class Ask:
    """A row asked on the way, with the deeds it may have and the books of those that have failed."""

    def __init__(self, key, place, options):
        self.key = key
        self.place = place
        self.options = options
        self.books = []

    def is_full(self):
        """Tell whether each deed has its book."""
        return len(self.books) == len(self.options)

    def book(self):
        """Tell the book of a row whose deeds have all failed."""
        mood, sight = self.key
        return ("ask", mood, sight, tuple(self.books))


def sought(errand, most):
    """Tell ("does", machine), ("none", book), or ("open", None) where more than most rows would be asked."""
    end = paper_end(errand)
    if end is not None:
        return ("none", end)
    # Asks wait in a list, the last one being tried: a way may be longer than calls should nest.
    asks = []
    rows = {}
    asked = 0
    told = gone(errand, rows, (0, at_first(errand[0][0])))
    while told[0] != "does":
        if told[0] == "wants":
            if asked == most:
                return ("open", None)
            asked += 1
            asks.append(Ask(told[1], told[2], deeds(errand, named_by(rows))))
        else:
            book = closed(asks, rows, told)
            if not asks:
                return ("none", book)
        told = by_next_deed(errand, rows, asks[-1])
    return ("does", (errand[1], tuple(sorted(rows.items()))))


def paper_end(errand):
    """Tell the end ("never", j, paper) of the first field that never meets, None where there is none."""
    for number, (web, standing) in enumerate(errand[0]):
        paper = never(web, standing, is_quiet_field(errand, number))
        if paper is not None:
            return ("never", number, paper)
    return None


def gone(errand, rows, place):
    """Tell how the fields go by the rows, from a place (field's number, its state) on.

    ("does",): all meet as asked; ("fails", j): field j doesn't; ("wants", key, place): a row that isn't there.
    """
    fields, eyes, hands, steps, moods, chalk, beats = errand
    first, state = place
    # What lies ahead of the place is walked already, and more rows don't change it.
    for number in range(first, len(fields)):
        came = state if number == first else at_first(fields[number])
        told, here = tried_on(fields[number][0], came, eyes, rows, (chalk, beats))
        if told[0] == "wants":
            return ("wants", told[1], (number, here))
        if told[0] == "fails":
            return ("fails", number)
    return ("does",)


def named_by(rows):
    """Tell how many moods are named by the rows asked: mood 0, and all up to the greatest one of their deeds."""
    return 1 + max([deed[0] for deed in rows.values()], default=0)


def closed(asks, rows, end):
    """Give the end of a way to the last ask, and full asks' books to those above; tell the book when none is left."""
    book = end
    while asks:
        ask = asks[-1]
        ask.books.append(book)
        if not ask.is_full():
            return None
        book = ask.book()
        del rows[ask.key]
        asks.pop()
    return book


def by_next_deed(errand, rows, ask):
    """Give an ask's row the next of its deeds, and tell how the fields go by it."""
    rows[ask.key] = ask.options[len(ask.books)]
    return gone(errand, rows, ask.place)
