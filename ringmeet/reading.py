"""Reading: webs, machines and standings from the texts that they are written as."""

from ringmeet.errors import NoText
from ringmeet.machines import is_eye, is_hand, is_machine
from ringmeet.standings import is_standing
from ringmeet.webs import is_web

FIGURES = "0123456789"
MOST_FIGURES = 4
STANDING_HEADS = ("stand", "chalk")


def read_web(text):
    """Tell the web of a text, refused with NoText where it isn't just so written."""
    web = tuple(parts_of(text, room_at))
    if not is_web(web):
        raise NoText(len(web))
    return web


def read_machine(text):
    """Tell the machine of a text, refused with NoText where it isn't just so written."""
    parts = parts_of(text, machine_row_at)
    machine = (parts[0], tuple(parts[1:]))
    if not is_machine(machine):
        raise NoText(len(parts))
    return machine


def read_standing(web, text):
    """Tell the standing of a text, refused with NoText where it isn't just so written, or not of the web."""
    standing = tuple(parts_of(text, standing_row_at))
    # A lacking row leaves a tuple that is too short.
    if not is_standing(web, standing):
        raise NoText(len(standing))
    return standing


def parts_of(text, reader):
    """Tell a list of what the reader makes of each row, refused with NoText at the first that it tells None of."""
    if not isinstance(text, str):
        raise NoText(0)
    parts = []
    for at, row in enumerate(text.split("\n")):
        part = reader(at, row)
        if part is None:
            raise NoText(at)
        parts.append(part)
    return parts


def room_at(at, row):
    """Tell the doors of a web's row, None where it has not its form."""
    words = row.split(" ")
    doors = [read_door(word) for word in words[1:]]
    return None if words[0] != "room" or None in doors else tuple(doors)


def read_door(word):
    """Tell (room, door) of ROOM.DOOR, None where it has not this form."""
    numbers = word.split(".")
    if len(numbers) != 2 or not all([is_number(number) for number in numbers]):
        return None
    return (int(numbers[0]), int(numbers[1]))


def machine_row_at(at, row):
    """Tell the eyes of a machine's first row, ((mood, sight), deed) of others, None where it has not its form."""
    return read_eyes(row) if at == 0 else read_deed(row)


def read_eyes(row):
    """Tell the eyes of a row, in any order, None where it has not its form."""
    words = row.split(" ")
    return tuple(words[1:]) if words[0] == "eyes" and all([is_eye(word) for word in words[1:]]) else None


def read_deed(row):
    """Tell ((mood, sight), deed) of MOOD CAME MARK DOORS OTHERS > MOOD HAND STEP, None where it has not this form."""
    words = row.split(" ")
    if len(words) != 9 or words[5] != ">" or not is_hand(words[7]):
        return None
    if not is_number(words[0]) or not is_number(words[6]):
        return None
    parts = words[1:5] + words[8:]
    if not all([part == "-" or is_number(part) for part in parts]):
        return None
    came, mark, doors, others, step = [None if part == "-" else int(part) for part in parts]
    return ((int(words[0]), (came, mark, doors, others)), (int(words[6]), words[7], step))


def standing_row_at(at, row):
    """Tell the rooms of a standing's first or second row, None of a third one, or where it has not its form."""
    words = row.split(" ")
    if at >= len(STANDING_HEADS) or words[0] != STANDING_HEADS[at]:
        return None
    return read_numbers(words[1:])


def read_numbers(words):
    """Tell the tuple of some words' numbers, None where one is none."""
    return tuple([int(word) for word in words]) if all([is_number(word) for word in words]) else None


def is_number(word):
    """Tell whether a text is a number of one to four figures, no 0 ahead but in 0."""
    if not 1 <= len(word) <= MOST_FIGURES or not all([sign in FIGURES for sign in word]):
        return False
    return word == "0" or word[0] != "0"
