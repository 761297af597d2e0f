"""Showing: webs, machines and standings written as texts."""


def show_web(web):
    """Tell a web's text, a row for each room."""
    return "\n".join([show_row("room", [f"{there}.{back}" for there, back in doors]) for doors in web])


def show_machine(machine):
    """Tell a machine's text: its eyes, then a row for each row."""
    eyes, rows = machine
    return "\n".join([show_row("eyes", eyes)] + [show_deed(key, deed) for key, deed in rows])


def show_deed(key, deed):
    """Tell one row of a machine's text."""
    mood, sight = key
    behind, hand, step = deed
    return " ".join([str(mood)] + [show_part(part) for part in sight] + [">", str(behind), hand, show_part(step)])


def show_part(part):
    """Tell a part of a sight, or a step, by its number, or - where it is None."""
    return "-" if part is None else str(part)


def show_standing(standing):
    """Tell a standing's text: its rooms, then its chalk."""
    rooms, chalk = standing
    return show_row("stand", rooms) + "\n" + show_row("chalk", chalk)


def show_row(head, things):
    """Tell a row of a word and some things, parted by blanks."""
    return " ".join([head] + [str(thing) for thing in things])
