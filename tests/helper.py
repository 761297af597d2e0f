"""Webs to ask of, things of all kinds, and looks that several test files need."""

import itertools

from ringmeet.beats import beat, begun, is_met, sight_of
from ringmeet.errands import deeds
from ringmeet.nevers import never
from ringmeet.webs import lane, ring

EYES = ("came", "chalk", "doors", "others")
MANY = {"came": 5, "chalk": 2, "doors": 5, "others": 2}
ALL_EYES = [eyes for many in range(5) for eyes in itertools.combinations(EYES, many)]
HANDS = ("leave", "mark", "wipe")
STEPS = (None, 0, 1, 2, 3)
BLIND = (None, None, None, None)


def sights_of(eyes):
    return sorted(itertools.product(*[range(MANY[eye]) if eye in eyes else (None,) for eye in EYES]),
                  key=lambda sight: tuple(-1 if part is None else part for part in sight))


def sets_of(many):
    """All rising tuples of rooms of a web of so many, none among them."""
    return [rooms for k in range(many + 1) for rooms in itertools.combinations(range(many), k)]


def webs_with(counts):
    """All tuples of rooms with so many doors each whose doors lead to one another, hanging together or not."""
    doors = [(room, door) for room, many in enumerate(counts) for door in range(many)]
    for pairs in pairings(doors):
        leads = {}
        for one, other in pairs:
            leads[one] = other
            leads[other] = one
        yield tuple(tuple(leads[(room, door)] for door in range(many)) for room, many in enumerate(counts))


def pairings(things):
    if not things:
        yield []
        return
    first, *rest = things
    for k, other in enumerate(rest):
        for pairs in pairings(rest[:k] + rest[k + 1:]):
            yield [(first, other)] + pairs


def hangs_together(rooms):
    known = {0}
    for _ in rooms:
        known |= {there for room in known for there, back in rooms[room]}
    return len(known) == len(rooms)


def all_pairings(most_rooms, most_doors):
    """All rooms with paired doors of at most so many rooms and doors together."""
    for many in range(1, most_rooms + 1):
        for counts in itertools.product(range(5), repeat=many):
            if sum(counts) <= most_doors and sum(counts) % 2 == 0:
                yield from webs_with(counts)


def small_webs(most_rooms=4, most_doors=6):
    return [rooms for rooms in all_pairings(most_rooms, most_doors) if hangs_together(rooms)]


def circulant(many, leap):
    """Rooms in a ring, with doors 2 and 3 that leap over some."""
    return tuple((((room + 1) % many, 1), ((room - 1) % many, 0), ((room + leap) % many, 3), ((room - leap) % many, 2))
                 for room in range(many))


def cube():
    return tuple(tuple((room ^ (1 << door), door) for door in range(3)) for room in range(8))


def double_star():
    """Two rooms, each with three doors to dead ends and one to the other: what hangs on both looks alike."""
    ends = [((0, 0),), ((0, 1),), ((0, 2),), ((1, 0),), ((1, 1),), ((1, 2),)]
    return (((2, 0), (3, 0), (4, 0), (1, 3)), ((5, 0), (6, 0), (7, 0), (0, 3))) + tuple(ends)


def big_webs():
    """Webs up to the bounds: eight rooms, four doors, loops, many doors between two rooms."""
    return [
        circulant(8, 3), circulant(8, 2), circulant(7, 3), circulant(5, 2), circulant(4, 2), cube(), double_star(),
        (((0, 1), (0, 0), (0, 3), (0, 2)),),
        (((0, 2), (0, 3), (0, 0), (0, 1)),),
        (((1, 0), (1, 1), (1, 2), (1, 3)), ((0, 0), (0, 1), (0, 2), (0, 3))),
        (((1, 3), (1, 2), (1, 1), (1, 0)), ((0, 3), (0, 2), (0, 1), (0, 0))),
        (((1, 0), (0, 2), (0, 1)), ((0, 0), (2, 1)), ((2, 2), (1, 1), (2, 0))),
    ]


def lifted(web, times, shifts):
    """A web laid so many times over another: where a shift is told of a door, it leads that many layers on."""
    many = len(web)
    rooms = []
    for layer in range(times):
        for room, doors in enumerate(web):
            leads = []
            for door, (there, back) in enumerate(doors):
                shift = shifts.get((room, door), 0) - shifts.get((there, back), 0)
                leads.append((there + many * ((layer + shift) % times), back))
            rooms.append(tuple(leads))
    return tuple(rooms)


def lifts():
    """Webs laid over smaller ones: (the web, how many rooms the smaller one has)."""
    bud = (((1, 0), (0, 2), (0, 1)), ((0, 0),))
    star = (((1, 0), (2, 0), (2, 1)), ((0, 0),), ((0, 1), (0, 2)))
    knot = (((0, 1), (0, 0), (0, 3), (0, 2)),)
    return [
        (lifted(bud, 4, {(0, 1): 1}), 2), (lifted(bud, 3, {(0, 1): 2}), 2), (lifted(star, 2, {(0, 1): 1}), 3),
        (lifted(knot, 8, {(0, 0): 1, (0, 2): 3}), 1), (lifted(knot, 6, {(0, 0): 2, (0, 2): 3}), 1),
        (lifted(bud, 1, {}), 2),
    ]


def mixed_lifts():
    """Webs laid over ones of two rooms, so that not all rooms of one colour are turned to one another."""
    def laid(base, times, orders):
        leads = {}
        for room, doors in enumerate(base):
            for door, (there, back) in enumerate(doors):
                order = orders.get((room, door))
                for layer in range(times) if order or (there, back) not in orders else ():
                    other = order[layer] if order else layer
                    leads[(room + len(base) * layer, door)] = (there + len(base) * other, back)
                    leads[(there + len(base) * other, back)] = (room + len(base) * layer, door)
        return tuple(tuple(leads[(room + len(base) * layer, door)] for door in range(len(doors)))
                     for layer in range(times) for room, doors in enumerate(base))

    knot = (((1, 0), (1, 1), (0, 3), (0, 2)), ((0, 0), (0, 1)))
    twin = (((1, 1), (1, 2), (1, 0)), ((0, 2), (0, 0), (0, 1)))
    return [
        laid(knot, 3, {(0, 1): (1, 0, 2), (0, 2): (0, 2, 1)}), laid(knot, 3, {(0, 1): (1, 2, 0), (0, 2): (0, 2, 1)}),
        laid(knot, 4, {(0, 1): (1, 0, 3, 2), (0, 2): (0, 2, 1, 3)}),
        laid(knot, 4, {(0, 1): (1, 2, 3, 0), (0, 2): (1, 0, 2, 3)}),
        laid(knot, 4, {(0, 1): (1, 2, 0, 3), (0, 2): (0, 1, 3, 2)}),
        laid(twin, 4, {(0, 1): (1, 2, 0, 3), (0, 2): (0, 1, 3, 2)}),
    ]


def signs_for(web):
    """Signs all alike, one unlike the others (at each room), by turns, all unlike, great and below nought."""
    many = len(web)
    yield (0,) * many
    for room in range(many):
        yield tuple(7 if other == room else 3 for other in range(many))
    yield tuple(room % 2 for room in range(many))
    yield tuple(range(many))
    yield tuple((10 ** 40) * (-1) ** room for room in range(many))


def room_orders(web):
    """Orders of a web's rooms: all of a small one, some of a big one."""
    many = len(web)
    if many <= 4:
        yield from itertools.permutations(range(many))
    else:
        for leap in (1, many - 1):
            for k in range(many):
                yield tuple((leap * room + k) % many for room in range(many))
        yield (1, 0) + tuple(range(2, many))
        yield (2, 4, 1, 0, 3) + tuple(range(5, many))


def by_order(order, things):
    """Things told room by room, for the rooms numbered otherwise."""
    return tuple(things[order.index(room)] for room in range(len(order)))


class Odd:
    """An object of no kind that the program knows."""


class Likes:
    """An object that says of itself that it is like all things."""

    def __eq__(self, other):
        return True

    def __hash__(self):
        return 0


class Touchy:
    """An object that can't be compared with anything."""

    def __eq__(self, other):
        raise RuntimeError("compared")

    __lt__ = __le__ = __gt__ = __ge__ = __ne__ = __eq__
    __hash__ = None


def nested(deep, wrap, core):
    for _ in range(deep):
        core = wrap(core)
    return core


def in_tuple(core):
    return (core,)


def in_pair(core):
    return (core, core)


def in_list(core):
    return [core]


def strange_things():
    """Things of all kinds, none of which is anything that a looker takes (but for empty ones)."""
    return [
        None, True, False, 0, 1, -1, 2, 4000, 10 ** 400, -(10 ** 400), "", "0", "came", "leave", "room 0.1", b"", b"01",
        [], [[]], [()], [0], [0, 1], {}, {0: 0}, {(): ()}, set(), {0}, {(0, 1)}, frozenset(), frozenset([0, 1]),
        bytearray(b"ab"), range(3), object(), Odd(), Odd, Likes(), Touchy(), int, len, iter([0]), (k for k in (0, 1)),
        Ellipsis, NotImplemented, ValueError("x"), slice(0, 1),
        (None,), (True,), (False,), ("",), ("0",), ("came",), (b"",), ([],), ({},), (set(),), (Odd(),), (Likes(),),
        (Touchy(),), (Ellipsis,),
        (None, None), (True, False), ("a", "b"), ([], []), ({}, {}), ((), []), ([], ()), (0, None), (None, 0), (0, "0"),
        ((0, True),), ((True, 0),), (((0, None),),), (((None, 0),),), ((("0", "1"),),), (([0, 1],),),
        (((0, 1), [0, 0]),), (((0, 1), None),), (((0, 1), 5),), (((0, 1), ()),),
        nested(40, in_tuple, ()), nested(40, in_list, []), nested(40, in_tuple, 0), nested(40, in_tuple, None),
        nested(20, in_pair, 0), nested(39, in_tuple, [[]]), nested(39, in_list, ()), nested(40, in_tuple, "x"),
        nested(40, lambda core: {0: core}, {}), ((), nested(38, in_tuple, ())), (nested(39, in_tuple, ()), ()),
        (0,) * 1000, ((),) * 1000, (((0, 0),),) * 9, tuple(range(50)),
    ]


def changed(thing, change):
    """All things that are this one but for one thing within it (or itself), changed as told."""
    yield from change(thing)
    if isinstance(thing, tuple):
        for k, part in enumerate(thing):
            for other in changed(part, change):
                yield thing[:k] + (other,) + thing[k + 1:]


def other_kinds(thing):
    """A thing of another kind that Python may take for the same, or that stands in its place."""
    if isinstance(thing, tuple):
        yield list(thing)
        yield dict(enumerate(thing))
        yield frozenset()
        yield Odd()
    elif isinstance(thing, int):
        if thing in (0, 1):
            yield bool(thing)
        yield str(thing)
        yield [thing]
        yield (thing,)
    elif isinstance(thing, str):
        yield thing.encode()
        yield [thing]
        yield (thing,)
    elif thing is None:
        yield False
        yield ""
        yield ()
    if thing is not None:
        yield None
    yield Likes()
    yield Touchy()
    yield nested(30, in_tuple, thing)
    yield nested(30, in_list, thing)


def is_same(one, other):
    """Whether a thing of any kind is a plain value, kind for kind."""
    if type(one) is not type(other):
        return False
    if isinstance(other, tuple):
        return len(one) == len(other) and all(is_same(part, part_of) for part, part_of in zip(one, other))
    return one == other


def is_told(value):
    """Whether a value is made of tuples, whole numbers, texts, True, False and None alone."""
    if type(value) is tuple:
        return all(is_told(part) for part in value)
    return value is None or type(value) in (int, str, bool)


class Dice:
    """Numbers that look drawn and are the same in each run."""

    def __init__(self, seed):
        self.state = seed * 2654435761 + 12345

    def roll(self, many):
        self.state = (self.state * 6364136223846793005 + 1442695040888963407) % 2 ** 64
        return (self.state >> 33) % many

    def pick(self, things):
        return things[self.roll(len(things))]

    def shuffled(self, things):
        left = list(things)
        return [left.pop(self.roll(len(left))) for _ in things]

    def some(self, things, least=0):
        """Some of the things, at least so many, in their order."""
        many = least + self.roll(len(things) - least + 1)
        places = sorted(self.shuffled(range(len(things)))[:many])
        return tuple(things[place] for place in places)


def drawn_web(dice, many):
    """A web of so many rooms, of at most four doors each, loops and several doors to one room among them."""
    doors = [0] * many
    pairs = []
    order = dice.shuffled(range(many))

    def join(one, other):
        pairs.append(((one, doors[one]), (other, doors[other] + (one == other))))
        doors[one] += 1
        doors[other] += 1

    for k in range(1, many):
        join(dice.pick([room for room in order[:k] if doors[room] < 4]), order[k])
    for _ in range(dice.roll(2 * many + 1)):
        free = [room for room in range(many) if doors[room] < 4]
        one, other = (dice.pick(free), dice.pick(free)) if free else (0, 0)
        if free and (one != other or doors[one] < 3):
            join(one, other)
    orders = [dice.shuffled(range(count)) for count in doors]
    leads = {}
    for (one, p), (other, q) in pairs:
        leads[(one, orders[one][p])] = (other, orders[other][q])
        leads[(other, orders[other][q])] = (one, orders[one][p])
    return tuple(tuple(leads[(room, door)] for door in range(doors[room])) for room in range(many))


def drawn_machine(dice, eyes, moods, hands=HANDS, steps=STEPS, lacking=8):
    """A machine with drawn deeds, about one row of so many not being there."""
    keys = [(mood, sight) for mood in range(moods) for sight in sights_of(eyes) if dice.roll(lacking)]
    return eyes, tuple((key, (dice.roll(moods), dice.pick(hands), dice.pick(steps))) for key in keys)


def drawn_standing(dice, web):
    rooms = tuple(range(len(web)))
    return dice.some(rooms, 1), dice.some(rooms)


def named_otherwise(order, rooms):
    """The rising tuple of some rooms, numbered otherwise."""
    return tuple(sorted(order[room] for room in rooms))


def standing_otherwise(order, standing):
    return tuple(named_otherwise(order, rooms) for rooms in standing)


def cover_webs():
    """Webs with some two rooms that look alike: rings, knots, lifts and those of the big ones."""
    rings = [tuple((((room + 1) % many, 1), ((room - 1) % many, 0)) for room in range(many)) for many in range(2, 9)]
    return rings + [circulant(8, 3), circulant(7, 3), circulant(4, 2), cube(), double_star()] + [
        web for web, few in lifts()[:-1]] + mixed_lifts()


def hard_fields():
    """Fields, one walker in each room, whose rooms look unlike by few or no chalked rooms alone."""
    webs = cover_webs() + big_webs()
    lanes = [tuple(tuple([(room - 1, min(room - 1, 1))] * (room > 0) + [(room + 1, 0)] * (room < many - 1))
                   for room in range(many)) for many in range(1, 9)]
    fields = []
    for web in webs + lanes:
        every = tuple(range(len(web)))
        fields += [(web, (every, chalk)) for chalk in ((), (0,), (1,), (0, 2), (0, 1, 3)) if set(chalk) <= set(every)]
    return fields


def is_quiet_field(errand, j):
    walkers = errand[0][j][1][0]
    return errand[2] == ("leave",) and ("others" not in errand[1] or len(walkers) <= 2)


def wanted_keys(web, eyes, whole):
    return [(walker[2], sight_of(web, eyes, whole, k)) for k, walker in enumerate(whole[0])]


class TooMany(Exception):
    """A search that asks more rows than a test wants to wait for."""


class Seeker:
    """The search as the document tells it, each field walked from its beginning for each row; it counts the rows."""

    def __init__(self, errand, most=5000):
        self.errand = errand
        self.most = most
        self.asked = 0

    def told(self):
        """("does", machine) or ("none", book)."""
        for j, (web, standing) in enumerate(self.errand[0]):
            paper = never(web, standing, is_quiet_field(self.errand, j))
            if paper:
                return ("none", ("never", j, paper))
        return self.way((), 1)

    def way(self, rows, named):
        fields, eyes, hands, steps, moods, chalk, beats = self.errand
        there = dict(rows)
        machine = (eyes, tuple(sorted(rows)))
        for j, (web, standing) in enumerate(fields):
            whole = begun(standing)
            for t in range(beats + 1):
                if len(whole[1]) > chalk or (t == beats and not is_met(whole)):
                    return ("none", ("fails", j))
                if is_met(whole):
                    break
                for key in wanted_keys(web, eyes, whole):
                    if key not in there:
                        return self.row(rows, named, key)
                whole = beat(web, machine, whole)
        return ("does", machine)

    def row(self, rows, named, key):
        self.asked += 1
        if self.asked > self.most:
            raise TooMany
        books = []
        for deed in deeds(self.errand, named):
            told = self.way(rows + ((key, deed),), max(named, deed[0] + 1))
            if told[0] == "does":
                return told
            books.append(told[1])
        return ("none", ("ask",) + key + (tuple(books),))


def search(errand):
    return Seeker(errand).told()


def fitting_machines(errand):
    """All machines that fit and have a row for each mood and sight."""
    fields, eyes, hands, steps, moods, chalk, beats = errand
    keys = [(mood, sight) for mood in range(moods) for sight in sights_of(eyes)]
    for some in itertools.product(list(itertools.product(range(moods), hands, steps)), repeat=len(keys)):
        yield eyes, tuple(zip(keys, some))


def how_many(errand):
    many = len(errand[2]) * len(errand[3]) * errand[4]
    return many ** (errand[4] * len(sights_of(errand[1])))


LANE = (lane(3), ((0, 2), ()))
NEAR = (lane(3), ((0, 1), ()))
LONG = (lane(4), ((0, 3), ()))
TURN = (ring(3), ((0, 1), ()))
CHALK = (ring(3), ((0, 1), (1,)))
ALONE = (ring(2), ((1,), (0,)))
PAIR = (ring(2), ((0, 1), ()))
THREE = (ring(3), ((0, 1, 2), (0,)))


def small_errands():
    """Errands of a few rows, done and not."""
    return [
        ((LANE,), (), ("leave",), (None, 0), 1, 0, 3),
        ((LANE,), (), ("leave",), (None, 1), 2, 0, 3),
        ((LANE,), ("doors",), ("leave",), (None, 1), 1, 0, 2),
        ((NEAR,), (), ("leave",), (None, 0, 1), 2, 0, 3),
        ((NEAR, LANE), (), ("leave", "mark"), (0,), 2, 1, 3),
        ((LONG,), (), ("leave",), (0, 1), 2, 0, 4),
        ((LONG,), ("doors",), ("leave",), (None, 0), 1, 0, 5),
        ((LONG,), ("doors",), ("leave",), (None, 0), 2, 0, 3),
        ((LONG, NEAR), (), ("leave",), (0, 1), 2, 0, 4),
        ((TURN,), (), ("leave", "mark"), (None, 0), 1, 3, 3),
        ((TURN,), ("chalk",), ("leave", "mark"), (None, 0), 1, 2, 3),
        ((TURN,), ("chalk",), ("leave", "mark"), (0,), 2, 1, 3),
        ((TURN,), ("chalk",), ("mark",), (None, 0), 2, 2, 3),
        ((TURN,), ("chalk",), ("mark",), (None, 0), 1, 3, 4),
        ((TURN,), ("chalk",), ("leave",), (None, 0), 1, 2, 3),
        ((TURN,), ("others",), ("mark", "wipe"), (None, 0), 1, 1, 3),
        ((CHALK,), ("chalk",), ("leave",), (0, 1), 1, 1, 2),
        ((CHALK,), ("chalk",), ("leave", "wipe"), (0, 1), 1, 1, 2),
        ((CHALK,), ("chalk",), ("leave",), (None, 0), 1, 1, 2),
        ((CHALK,), ("chalk",), ("leave",), (None, 0), 1, 0, 2),
        ((CHALK, TURN), ("chalk",), ("leave", "wipe"), (None, 0), 1, 2, 2),
        ((ALONE,), (), ("leave",), (None,), 1, 0, 3),
        ((ALONE,), (), ("leave",), (None,), 1, 1, 0),
        ((ALONE, PAIR), (), ("leave", "mark", "wipe"), STEPS, 3, 8, 40),
        ((ALONE, NEAR), (), ("leave",), (0,), 3, 1, 3),
        ((THREE,), (), ("leave",), (None, 0), 1, 8, 2),
        ((THREE,), ("chalk",), ("leave",), (None, 0), 1, 1, 2),
        ((THREE,), ("chalk",), ("leave",), (None, 0), 1, 1, 1),
        ((NEAR,), (), ("leave",), (0,), 3, 0, 0),
    ]


def drawn_field(dice):
    """A field of a small web, of two or three walkers, seldom one of which never tells a paper."""
    while True:
        web = dice.pick([lane(2), lane(3), lane(4), ring(2), ring(3), ring(4), drawn_web(dice, 2 + dice.roll(3))])
        rooms = tuple(sorted(dice.shuffled(range(len(web)))[:2 + dice.roll(2)]))
        chalk = dice.some(range(len(web))) if dice.roll(3) == 0 else ()
        if never(web, (rooms, chalk), False) is None or dice.roll(12) == 0:
            return web, (rooms, chalk)


def drawn_errand(dice):
    """An errand of one to three such fields, not always one that can be done."""
    fields = tuple(drawn_field(dice) for _ in range(1 + dice.roll(3)))
    hands = dice.pick([("leave",), ("leave", "mark"), ("mark",), ("mark", "wipe"), HANDS])
    steps = dice.pick([(0,), (None, 0), (0, 1), (None, 0, 1), (None, 1), STEPS])
    return fields, dice.pick(ALL_EYES), hands, steps, 1 + dice.roll(3), dice.roll(5), dice.pick((1, 2, 3, 4, 7))


def sight_by_words(web, eyes, whole, k):
    """The sight, asked part by part, as the document tells it."""
    room = whole[0][k][0]
    alone = all(n == k or walker[0] != room for n, walker in enumerate(whole[0]))
    full = {"came": whole[0][k][1], "chalk": int(room in whole[1]), "doors": len(web[room]), "others": int(not alone)}
    return tuple(full[eye] if eye in eyes else None for eye in EYES)


def beat_by_words(web, machine, whole, choice=None):
    """The whole behind a beat (of the choice's walkers alone), walker by walker and room by room, as it is told."""
    rows = dict(machine[1])
    done = []
    for k, (room, came, mood) in enumerate(whole[0]):
        rest = (mood, "leave", None)
        awake = choice is None or k in choice
        done.append(rows.get((mood, sight_by_words(web, machine[0], whole, k)), rest) if awake else rest)
    chalk = []
    for room in range(len(web)):
        hands = {deed[1] for deed, walker in zip(done, whole[0]) if walker[0] == room}
        if "mark" in hands or (room in whole[1] and "wipe" not in hands):
            chalk.append(room)
    walkers = []
    for (room, came, old), (mood, hand, step) in zip(whole[0], done):
        if step in range(len(web[room])) and step is not None:
            room, back = web[room][step]
            came = back + 1
        walkers.append((room, came, mood))
    return tuple(walkers), tuple(chalk)


def drawn_whole(dice, web, many, moods):
    walkers = []
    for _ in range(many):
        room = dice.roll(len(web))
        walkers.append((room, dice.roll(len(web[room]) + 1), dice.roll(moods)))
    return tuple(walkers), dice.some(tuple(range(len(web))))


def whole_otherwise(order, whole):
    return (tuple((order[room], came, mood) for room, came, mood in whole[0]),
            tuple(sorted(order[room] for room in whole[1])))
