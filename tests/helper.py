"""Webs to ask of, things of all kinds, and looks that several test files need."""

import itertools

EYES = ("came", "chalk", "doors", "others")
MANY = {"came": 5, "chalk": 2, "doors": 5, "others": 2}
ALL_EYES = [eyes for many in range(5) for eyes in itertools.combinations(EYES, many)]
HANDS = ("leave", "mark", "wipe")
STEPS = (None, 0, 1, 2, 3)
BLIND = (None, None, None, None)


def sights_of(eyes):
    return sorted(itertools.product(*[range(MANY[eye]) if eye in eyes else (None,) for eye in EYES]),
                  key=lambda sight: tuple(-1 if part is None else part for part in sight))


def sets_of(many):
    """All rising tuples of rooms of a web of so many, none among them."""
    return [rooms for k in range(many + 1) for rooms in itertools.combinations(range(many), k)]


def webs_with(counts):
    """All tuples of rooms with so many doors each whose doors lead to one another, hanging together or not."""
    doors = [(room, door) for room, many in enumerate(counts) for door in range(many)]
    for pairs in pairings(doors):
        leads = {}
        for one, other in pairs:
            leads[one] = other
            leads[other] = one
        yield tuple(tuple(leads[(room, door)] for door in range(many)) for room, many in enumerate(counts))


def pairings(things):
    if not things:
        yield []
        return
    first, *rest = things
    for k, other in enumerate(rest):
        for pairs in pairings(rest[:k] + rest[k + 1:]):
            yield [(first, other)] + pairs


def hangs_together(rooms):
    known = {0}
    for _ in rooms:
        known |= {there for room in known for there, back in rooms[room]}
    return len(known) == len(rooms)


def all_pairings(most_rooms, most_doors):
    """All rooms with paired doors of at most so many rooms and doors together."""
    for many in range(1, most_rooms + 1):
        for counts in itertools.product(range(5), repeat=many):
            if sum(counts) <= most_doors and sum(counts) % 2 == 0:
                yield from webs_with(counts)


def small_webs(most_rooms=4, most_doors=6):
    return [rooms for rooms in all_pairings(most_rooms, most_doors) if hangs_together(rooms)]


def circulant(many, leap):
    """Rooms in a ring, with doors 2 and 3 that leap over some."""
    return tuple((((room + 1) % many, 1), ((room - 1) % many, 0), ((room + leap) % many, 3), ((room - leap) % many, 2))
                 for room in range(many))


def cube():
    return tuple(tuple((room ^ (1 << door), door) for door in range(3)) for room in range(8))


def double_star():
    """Two rooms, each with three doors to dead ends and one to the other: what hangs on both looks alike."""
    ends = [((0, 0),), ((0, 1),), ((0, 2),), ((1, 0),), ((1, 1),), ((1, 2),)]
    return (((2, 0), (3, 0), (4, 0), (1, 3)), ((5, 0), (6, 0), (7, 0), (0, 3))) + tuple(ends)


def big_webs():
    """Webs up to the bounds: eight rooms, four doors, loops, many doors between two rooms."""
    return [
        circulant(8, 3), circulant(8, 2), circulant(7, 3), circulant(5, 2), circulant(4, 2), cube(), double_star(),
        (((0, 1), (0, 0), (0, 3), (0, 2)),),
        (((0, 2), (0, 3), (0, 0), (0, 1)),),
        (((1, 0), (1, 1), (1, 2), (1, 3)), ((0, 0), (0, 1), (0, 2), (0, 3))),
        (((1, 3), (1, 2), (1, 1), (1, 0)), ((0, 3), (0, 2), (0, 1), (0, 0))),
        (((1, 0), (0, 2), (0, 1)), ((0, 0), (2, 1)), ((2, 2), (1, 1), (2, 0))),
    ]


def lifted(web, times, shifts):
    """A web laid so many times over another: where a shift is told of a door, it leads that many layers on."""
    many = len(web)
    rooms = []
    for layer in range(times):
        for room, doors in enumerate(web):
            leads = []
            for door, (there, back) in enumerate(doors):
                shift = shifts.get((room, door), 0) - shifts.get((there, back), 0)
                leads.append((there + many * ((layer + shift) % times), back))
            rooms.append(tuple(leads))
    return tuple(rooms)


def lifts():
    """Webs laid over smaller ones: (the web, how many rooms the smaller one has)."""
    bud = (((1, 0), (0, 2), (0, 1)), ((0, 0),))
    star = (((1, 0), (2, 0), (2, 1)), ((0, 0),), ((0, 1), (0, 2)))
    knot = (((0, 1), (0, 0), (0, 3), (0, 2)),)
    return [
        (lifted(bud, 4, {(0, 1): 1}), 2), (lifted(bud, 3, {(0, 1): 2}), 2), (lifted(star, 2, {(0, 1): 1}), 3),
        (lifted(knot, 8, {(0, 0): 1, (0, 2): 3}), 1), (lifted(knot, 6, {(0, 0): 2, (0, 2): 3}), 1),
        (lifted(bud, 1, {}), 2),
    ]


def mixed_lifts():
    """Webs laid over ones of two rooms, so that not all rooms of one colour are turned to one another."""
    def laid(base, times, orders):
        leads = {}
        for room, doors in enumerate(base):
            for door, (there, back) in enumerate(doors):
                order = orders.get((room, door))
                for layer in range(times) if order or (there, back) not in orders else ():
                    other = order[layer] if order else layer
                    leads[(room + len(base) * layer, door)] = (there + len(base) * other, back)
                    leads[(there + len(base) * other, back)] = (room + len(base) * layer, door)
        return tuple(tuple(leads[(room + len(base) * layer, door)] for door in range(len(doors)))
                     for layer in range(times) for room, doors in enumerate(base))

    knot = (((1, 0), (1, 1), (0, 3), (0, 2)), ((0, 0), (0, 1)))
    twin = (((1, 1), (1, 2), (1, 0)), ((0, 2), (0, 0), (0, 1)))
    return [
        laid(knot, 3, {(0, 1): (1, 0, 2), (0, 2): (0, 2, 1)}), laid(knot, 3, {(0, 1): (1, 2, 0), (0, 2): (0, 2, 1)}),
        laid(knot, 4, {(0, 1): (1, 0, 3, 2), (0, 2): (0, 2, 1, 3)}),
        laid(knot, 4, {(0, 1): (1, 2, 3, 0), (0, 2): (1, 0, 2, 3)}),
        laid(knot, 4, {(0, 1): (1, 2, 0, 3), (0, 2): (0, 1, 3, 2)}),
        laid(twin, 4, {(0, 1): (1, 2, 0, 3), (0, 2): (0, 1, 3, 2)}),
    ]


def signs_for(web):
    """Signs all alike, one unlike the others (at each room), by turns, all unlike, great and below nought."""
    many = len(web)
    yield (0,) * many
    for room in range(many):
        yield tuple(7 if other == room else 3 for other in range(many))
    yield tuple(room % 2 for room in range(many))
    yield tuple(range(many))
    yield tuple((10 ** 40) * (-1) ** room for room in range(many))


def room_orders(web):
    """Orders of a web's rooms: all of a small one, some of a big one."""
    many = len(web)
    if many <= 4:
        yield from itertools.permutations(range(many))
    else:
        for leap in (1, many - 1):
            for k in range(many):
                yield tuple((leap * room + k) % many for room in range(many))
        yield (1, 0) + tuple(range(2, many))
        yield (2, 4, 1, 0, 3) + tuple(range(5, many))


def by_order(order, things):
    """Things told room by room, for the rooms numbered otherwise."""
    return tuple(things[order.index(room)] for room in range(len(order)))


class Odd:
    """An object of no kind that the program knows."""


class Likes:
    """An object that says of itself that it is like all things."""

    def __eq__(self, other):
        return True

    def __hash__(self):
        return 0


class Touchy:
    """An object that can't be compared with anything."""

    def __eq__(self, other):
        raise RuntimeError("compared")

    __lt__ = __le__ = __gt__ = __ge__ = __ne__ = __eq__
    __hash__ = None


def nested(deep, wrap, core):
    for _ in range(deep):
        core = wrap(core)
    return core


def in_tuple(core):
    return (core,)


def in_pair(core):
    return (core, core)


def in_list(core):
    return [core]


def strange_things():
    """Things of all kinds, none of which is anything that a looker takes (but for empty ones)."""
    return [
        None, True, False, 0, 1, -1, 2, 4000, 10 ** 400, -(10 ** 400), "", "0", "came", "leave", "room 0.1", b"", b"01",
        [], [[]], [()], [0], [0, 1], {}, {0: 0}, {(): ()}, set(), {0}, {(0, 1)}, frozenset(), frozenset([0, 1]),
        bytearray(b"ab"), range(3), object(), Odd(), Odd, Likes(), Touchy(), int, len, iter([0]), (k for k in (0, 1)),
        Ellipsis, NotImplemented, ValueError("x"), slice(0, 1),
        (None,), (True,), (False,), ("",), ("0",), ("came",), (b"",), ([],), ({},), (set(),), (Odd(),), (Likes(),),
        (Touchy(),), (Ellipsis,),
        (None, None), (True, False), ("a", "b"), ([], []), ({}, {}), ((), []), ([], ()), (0, None), (None, 0), (0, "0"),
        ((0, True),), ((True, 0),), (((0, None),),), (((None, 0),),), ((("0", "1"),),), (([0, 1],),),
        (((0, 1), [0, 0]),), (((0, 1), None),), (((0, 1), 5),), (((0, 1), ()),),
        nested(40, in_tuple, ()), nested(40, in_list, []), nested(40, in_tuple, 0), nested(40, in_tuple, None),
        nested(20, in_pair, 0), nested(39, in_tuple, [[]]), nested(39, in_list, ()), nested(40, in_tuple, "x"),
        nested(40, lambda core: {0: core}, {}), ((), nested(38, in_tuple, ())), (nested(39, in_tuple, ()), ()),
        (0,) * 1000, ((),) * 1000, (((0, 0),),) * 9, tuple(range(50)),
    ]


def changed(thing, change):
    """All things that are this one but for one thing within it (or itself), changed as told."""
    yield from change(thing)
    if isinstance(thing, tuple):
        for k, part in enumerate(thing):
            for other in changed(part, change):
                yield thing[:k] + (other,) + thing[k + 1:]


def other_kinds(thing):
    """A thing of another kind that Python may take for the same, or that stands in its place."""
    if isinstance(thing, tuple):
        yield list(thing)
        yield dict(enumerate(thing))
        yield frozenset()
        yield Odd()
    elif isinstance(thing, int):
        if thing in (0, 1):
            yield bool(thing)
        yield str(thing)
        yield [thing]
        yield (thing,)
    elif isinstance(thing, str):
        yield thing.encode()
        yield [thing]
        yield (thing,)
    elif thing is None:
        yield False
        yield ""
        yield ()
    if thing is not None:
        yield None
    yield Likes()
    yield Touchy()
    yield nested(30, in_tuple, thing)
    yield nested(30, in_list, thing)


def is_same(one, other):
    """Whether a thing of any kind is a plain value, kind for kind."""
    if type(one) is not type(other):
        return False
    if isinstance(other, tuple):
        return len(one) == len(other) and all(is_same(part, part_of) for part, part_of in zip(one, other))
    return one == other


def is_told(value):
    """Whether a value is made of tuples, whole numbers, texts, True, False and None alone."""
    if type(value) is tuple:
        return all(is_told(part) for part in value)
    return value is None or type(value) in (int, str, bool)


class Dice:
    """Numbers that look drawn and are the same in each run."""

    def __init__(self, seed):
        self.state = seed * 2654435761 + 12345

    def roll(self, many):
        self.state = (self.state * 6364136223846793005 + 1442695040888963407) % 2 ** 64
        return (self.state >> 33) % many

    def pick(self, things):
        return things[self.roll(len(things))]

    def shuffled(self, things):
        left = list(things)
        return [left.pop(self.roll(len(left))) for _ in things]

    def some(self, things, least=0):
        """Some of the things, at least so many, in their order."""
        many = least + self.roll(len(things) - least + 1)
        places = sorted(self.shuffled(range(len(things)))[:many])
        return tuple(things[place] for place in places)


def drawn_web(dice, many):
    """A web of so many rooms, of at most four doors each, loops and several doors to one room among them."""
    doors = [0] * many
    pairs = []
    order = dice.shuffled(range(many))

    def join(one, other):
        pairs.append(((one, doors[one]), (other, doors[other] + (one == other))))
        doors[one] += 1
        doors[other] += 1

    for k in range(1, many):
        join(dice.pick([room for room in order[:k] if doors[room] < 4]), order[k])
    for _ in range(dice.roll(2 * many + 1)):
        free = [room for room in range(many) if doors[room] < 4]
        one, other = (dice.pick(free), dice.pick(free)) if free else (0, 0)
        if free and (one != other or doors[one] < 3):
            join(one, other)
    orders = [dice.shuffled(range(count)) for count in doors]
    leads = {}
    for (one, p), (other, q) in pairs:
        leads[(one, orders[one][p])] = (other, orders[other][q])
        leads[(other, orders[other][q])] = (one, orders[one][p])
    return tuple(tuple(leads[(room, door)] for door in range(doors[room])) for room in range(many))


def drawn_machine(dice, eyes, moods, hands=HANDS, steps=STEPS, lacking=8):
    """A machine with drawn deeds, about one row of so many not being there."""
    keys = [(mood, sight) for mood in range(moods) for sight in sights_of(eyes) if dice.roll(lacking)]
    return eyes, tuple((key, (dice.roll(moods), dice.pick(hands), dice.pick(steps))) for key in keys)


def drawn_standing(dice, web):
    rooms = tuple(range(len(web)))
    return dice.some(rooms, 1), dice.some(rooms)


def named_otherwise(order, rooms):
    """The rising tuple of some rooms, numbered otherwise."""
    return tuple(sorted(order[room] for room in rooms))


def standing_otherwise(order, standing):
    return tuple(named_otherwise(order, rooms) for rooms in standing)


def cover_webs():
    """Webs with some two rooms that look alike: rings, knots, lifts and those of the big ones."""
    rings = [tuple((((room + 1) % many, 1), ((room - 1) % many, 0)) for room in range(many)) for many in range(2, 9)]
    return rings + [circulant(8, 3), circulant(7, 3), circulant(4, 2), cube(), double_star()] + [
        web for web, few in lifts()[:-1]] + mixed_lifts()


def hard_fields():
    """Fields, one walker in each room, whose rooms look unlike by few or no chalked rooms alone."""
    webs = cover_webs() + big_webs()
    lanes = [tuple(tuple([(room - 1, min(room - 1, 1))] * (room > 0) + [(room + 1, 0)] * (room < many - 1))
                   for room in range(many)) for many in range(1, 9)]
    fields = []
    for web in webs + lanes:
        every = tuple(range(len(web)))
        fields += [(web, (every, chalk)) for chalk in ((), (0,), (1,), (0, 2), (0, 1, 3)) if set(chalk) <= set(every)]
    return fields
