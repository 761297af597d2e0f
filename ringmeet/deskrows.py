"""Desk rows: what is said to a desk, by its form alone."""

from ringmeet.errors import NoRow
from ringmeet.reading import read_numbers
from ringmeet.webs import MOST_ROOMS

MOST_BEATS = 400


def nothing(words):
    """Tell () of no words, None of any."""
    return None if words else ()


def how_many(words):
    """Tell the number of a ring's or a lane's rooms, None where words are no such number."""
    return one_number(words, 1, MOST_ROOMS)


def most(words):
    """Tell the number that bounds a run, None where words are no such number."""
    return one_number(words, 0, MOST_BEATS)


def one_number(words, low, high):
    """Tell the number that a single word tells, None where it is none from low to high."""
    numbers = read_numbers(words)
    if numbers is None or len(numbers) != 1 or not low <= numbers[0] <= high:
        return None
    return numbers[0]


def quiet_or_not(words):
    """Tell whether quiet is said, None where anything else is."""
    if words == ["quiet"]:
        return True
    return None if words else False


def any_numbers(words):
    """Tell the tuple of numbers, none or more, None where words are no such numbers."""
    return read_numbers(words)


def some_numbers(words):
    """Tell the tuple of one or more numbers, None where words are no such numbers."""
    return read_numbers(words) if words else None


def two_numbers(words):
    """Tell the tuple of two numbers, None where words are no such numbers."""
    return read_numbers(words) if len(words) == 2 else None


# The first words of rows, and what tells the things that stand behind them.
FORMS = {
    "ring": how_many, "lane": how_many, "stand": some_numbers, "chalk": any_numbers, "turns": nothing,
    "colours": nothing, "part": two_numbers, "never": quiet_or_not, "run": most, "slow": most, "meet": quiet_or_not,
    "save": nothing,
}


def parsed(row):
    """Tell (first word, the thing behind it) of a row of whatever kind, refused with NoRow where it is none."""
    if not isinstance(row, str) or "\n" in row:
        raise NoRow("no row of one line")
    word, blank, rest = row.partition(" ")
    if blank and word in ("web", "machine"):
        return (word, rest.replace("/", "\n"))
    if word not in FORMS:
        raise NoRow("a row that begins otherwise than any that is known")
    form = FORMS[word]
    thing = form(row.split(" ")[1:])
    if thing is None:
        raise NoRow(f"a row of {word} that goes on otherwise")
    return (word, thing)
