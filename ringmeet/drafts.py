"""Drafts: machines that leave chalk as it is, made row by row along the ways of their walkers."""

from ringmeet.beats import sight_of, stepped


class Draft:
    """The rows so far of a machine for a web with chalk; each walker is (room, came, mood), as in a whole."""

    def __init__(self, web, chalk, eyes):
        self.web = web
        self.chalk = chalk
        self.eyes = eyes
        self.rows = {}

    def sight(self, walker):
        """Tell what a walker sees, alone."""
        return sight_of(self.web, self.eyes, ((walker,), self.chalk), 0)

    def lead(self, walker, step):
        """Tell a walker behind a step, for which it is given a row and a new mood if it has none yet."""
        key = (walker[2], self.sight(walker))
        if key not in self.rows:
            # One new mood a row at most, so none that is called by how many rows there are has been used.
            self.rows[key] = (len(self.rows) + 1, "leave", step)
        return stepped(self.web, walker, self.rows[key])

    def lead_along(self, walker, steps):
        """Tell a walker behind some steps."""
        for step in steps:
            walker = self.lead(walker, step)
        return walker

    def rest(self, walker):
        """Let a walker stay for ever where it is."""
        self.rows[(walker[2], self.sight(walker))] = (walker[2], "leave", None)

    def made(self):
        """Tell the machine."""
        return (self.eyes, tuple(sorted(self.rows.items())))
