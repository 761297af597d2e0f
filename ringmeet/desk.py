"""A desk: a web, walkers in it and a machine, laid and asked of by rows of text."""

from ringmeet.colours import colouring
from ringmeet.deskrows import parsed
from ringmeet.errors import Lacks, NoRow
from ringmeet.nevers import never
from ringmeet.parting import parted
from ringmeet.reading import read_machine, read_web
from ringmeet.runs import run
from ringmeet.showing import show_standing, show_web
from ringmeet.slow import slow
from ringmeet.standings import are_rooms, chalk_signs
from ringmeet.things import is_below
from ringmeet.turns import turns
from ringmeet.verdicts import verdict
from ringmeet.webs import lane, ring

# How many of a web, a stand and a machine, in this order, a row wants; those that aren't here want none.
WANTED = {
    "stand": 1, "turns": 1, "colours": 1, "part": 1, "save": 1, "chalk": 2, "never": 2, "meet": 2, "run": 3, "slow": 3,
}


def lay_ring(desk, many):
    """Lay a ring of so many rooms."""
    return lay(desk, ring(many))


def lay_lane(desk, many):
    """Lay a lane of so many rooms."""
    return lay(desk, lane(many))


def lay_web(desk, text):
    """Lay the web of a text."""
    return lay(desk, read_web(text))


def lay(desk, web):
    """Lay a web, and take away what was for another one."""
    desk.web = web
    desk.standing = None
    desk.machine = None
    return "done"


def lay_machine(desk, text):
    """Lay the machine of a text."""
    desk.machine = read_machine(text)
    return "done"


def lay_stand(desk, rooms):
    """Lay a standing without chalk."""
    desk.standing = (rooms_there(desk, rooms), ())
    return "done"


def lay_chalk(desk, rooms):
    """Lay the standing's chalk."""
    desk.standing = (desk.standing[0], rooms_there(desk, rooms))
    return "done"


def rooms_there(desk, rooms):
    """Tell the rooms, refused with NoRow where one isn't there or they don't rise."""
    if not are_rooms(desk.web, rooms):
        raise NoRow("rooms that aren't there or don't rise")
    return rooms


def tell_turns(desk, nothing):
    """Tell how many turns the web has."""
    return str(len(turns(desk.web)))


def signs_of(desk):
    """Tell the signs of the chalk, all 0 without a stand."""
    return chalk_signs(desk.web, () if desk.standing is None else desk.standing[1])


def tell_colours(desk, nothing):
    """Tell the rooms' colours by the chalk alone."""
    return in_words(colouring(desk.web, signs_of(desk)))


def tell_part(desk, rooms):
    """Tell the walk that parts two rooms by the chalk alone, refused with NoRow where one isn't there."""
    one, other = rooms
    if not is_below(one, len(desk.web)) or not is_below(other, len(desk.web)):
        raise NoRow("a room that isn't there")
    walk = parted(desk.web, signs_of(desk), one, other)
    if walk is None:
        return "alike"
    return in_words(walk) if walk else "-"


def tell_never(desk, quiet):
    """Tell by what paper the standing never meets."""
    paper = never(desk.web, desk.standing, quiet)
    if paper is None:
        return "no"
    return in_words(("colours",) + paper[1] if paper[0] == "colours" else paper[:3])


def tell_run(desk, most):
    """Tell how the machine runs by at most so many beats."""
    told = run(desk.web, desk.machine, desk.standing, most)
    return "open" if told[0] == "open" else in_words(told)


def tell_slow(desk, most):
    """Tell whether the machine meets however slow, looking at so many wholes at most."""
    return slow(desk.web, desk.machine, desk.standing, most)[0]


def tell_meet(desk, quiet):
    """Tell whether the walkers can be brought together without chalk at first, and by how many beats."""
    told = verdict(desk.web, desk.standing[0], not quiet)
    return f"by {told[2]}" if told[0] == "meet" else told[0]


def tell_save(desk, nothing):
    """Tell the web's text and, if there is a stand, the standing's, in one row."""
    text = show_web(desk.web)
    if desk.standing is not None:
        text += "\n" + show_standing(desk.standing)
    return text.replace("\n", "/")


def in_words(things):
    """Tell things as words parted by blanks."""
    return " ".join([str(thing) for thing in things])


# The deed or the answer of each row, by its first word.
DEEDS = {
    "ring": lay_ring, "lane": lay_lane, "web": lay_web, "machine": lay_machine, "stand": lay_stand, "chalk": lay_chalk,
    "turns": tell_turns, "colours": tell_colours, "part": tell_part, "never": tell_never, "run": tell_run,
    "slow": tell_slow, "meet": tell_meet, "save": tell_save,
}


class Desk:
    """What lies on a desk: each is None where it lacks."""

    def __init__(self):
        self.web = None
        self.standing = None
        self.machine = None

    def say(self, row):
        """Do what a row, of whatever kind, says, and tell its answer; refused with NoRow, NoText or Lacks."""
        word, thing = parsed(row)
        self.look_for(word)
        deed = DEEDS[word]
        return deed(self, thing)

    def look_for(self, word):
        """Refuse a row with Lacks where it wants what isn't there."""
        there = [("web", self.web), ("stand", self.standing), ("machine", self.machine)]
        for name, laid in there[:WANTED.get(word, 0)]:
            if laid is None:
                raise Lacks(f"{word} wants a {name}")
