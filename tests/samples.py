"""Machines, words and odd things that several test files ask of the program."""

from itertools import combinations, combinations_with_replacement, product

ONE_ROOM = ((0,),)
# Letter 0 goes round; letter 1 leads room 3 to room 0 and stays else.
ROUND = ((1, 0), (2, 1), (3, 2), (0, 0))
HALL = ((1, 0, 2), (1, 2, 0), (0, 0, 0))
# Letters that only exchange rooms: a round of four, and two neighbours that change places.
EXCHANGE = ((1, 1), (2, 0), (3, 2), (0, 3))
# Two parts, rooms 0 to 2 and rooms 3 and 4, that no letter leaves; each of them comes to one room.
PARTS = ((1, 0), (2, 0), (0, 2), (4, 3), (4, 4))
# Letters 0 and 1 lead each pair of 26 rooms to another pair; letters 2 to 5 stay.
WIDE_EXCHANGE = tuple(((room + 1) % 26, (room * 5) % 26, room, room, room, room) for room in range(26))
# Rooms of like parity come together and others never: each letter keeps or turns all parities.
PARITY = tuple(((room + 1) % 26, room if room < 24 else room - 24, room % 2, (room + 2) % 26, 25 - room, room)
               for room in range(26))


def round_machine(rooms):
    """Cerny's machine of so many rooms: (rooms - 1) squared letters, no fewer, bring all its rooms to one."""
    return tuple(((room + 1) % rooms, room if room < rooms - 1 else 0) for room in range(rooms))


def small_machines(most_rooms=3, most_letters=2):
    """All machines of at most so many rooms and letters."""
    for rooms in range(1, most_rooms + 1):
        for letters in range(1, most_letters + 1):
            rows = list(product(range(rooms), repeat=letters))
            yield from product(rows, repeat=rooms)


def small_webs(most_rooms=3, most_ways=3):
    """All webs of at most so many rooms and ways."""
    for rooms in range(1, most_rooms + 1):
        for ways in range(1, most_ways + 1):
            rows = list(combinations_with_replacement(range(rooms), ways))
            yield from product(rows, repeat=rooms)


def made_machine(rooms, letters, seed):
    """A machine whose ways look strewn, the same for the same numbers."""
    state = seed * 7919 + 17
    rows = []
    for _ in range(rooms):
        row = []
        for _ in range(letters):
            state = (state * 1103515245 + 12345) % 2147483648
            row.append((state >> 8) % rooms)
        rows.append(tuple(row))
    return tuple(rows)


def made_word(letters, length, seed):
    """A word of so many letters of an alphabet, the same for the same numbers."""
    return tuple(row[0] % letters for row in made_machine(max(length, 1), 1, seed))[:length]


def wide_machines():
    """Machines of 26 rooms and 6 letters."""
    return [WIDE_EXCHANGE, PARITY, tuple(row * 3 for row in round_machine(26))] + [
        made_machine(26, 6, seed) for seed in range(4)]


def with_copies(machine, copied, seed):
    """A machine with a room for each of copied, rooms of this one, each at least once: it goes on as that one does,
    to whichever copy."""
    strewn = made_machine(len(copied), len(machine[0]), seed)
    copies = [[at for at, room in enumerate(copied) if room == old] for old in range(len(machine))]
    return tuple(tuple(copies[goal][pick % len(copies[goal])] for goal, pick in zip(machine[room], strewn[at]))
                 for at, room in enumerate(copied))


def copied_rooms(rooms, many, seed):
    """Each of so many rooms once, and rooms of them again, so that there are many in all."""
    return tuple(range(rooms)) + tuple(row[0] % rooms for row in made_machine(many, 1, seed))[:many - rooms]


def partings_of(many):
    """All partings of so many rooms."""
    if many == 0:
        yield ()
        return
    for ahead in partings_of(many - 1):
        for number in range(max(ahead, default=-1) + 2):
            yield ahead + (number,)


def parted(marks):
    """The parting that has rooms of like marks together."""
    firsts = list(dict.fromkeys(marks))
    return tuple(firsts.index(mark) for mark in marks)


class Drawn:
    """Numbers that look strewn, the same for the same seed."""

    def __init__(self, seed):
        self.state = seed * 7919 + 17

    def below(self, many):
        self.state = (self.state * 1103515245 + 12345) % 2147483648
        return (self.state >> 8) % many

    def one_of(self, things):
        return things[self.below(len(things))]

    def shuffled(self, things):
        left, turned = list(things), []
        while left:
            turned.append(left.pop(self.below(len(left))))
        return turned


def web_by_hand(rows):
    """The web with these ways of its rooms."""
    return tuple(tuple(sorted(row)) for row in rows)


def turning_web(rooms, ways, beat, seed):
    """A web each way of which leads from one of so many phases to the next."""
    drawn = Drawn(seed)
    phases = drawn.shuffled([at % beat for at in range(rooms)])
    halls = [[room for room in range(rooms) if phases[room] == phase] for phase in range(beat)]
    return web_by_hand([drawn.one_of(halls[(phase + 1) % beat]) for _ in range(ways)] for phase in phases)


def exchanging_web(rooms, ways, seed):
    """A web as many ways of which lead to each room as from it."""
    drawn = Drawn(seed)
    orders = [drawn.shuffled(range(rooms)) for _ in range(ways)]
    return web_by_hand(zip(*orders))


def copied_web(rooms, many, ways, seed):
    """A web of which rooms are copies of one another."""
    return web_by_hand(with_copies(made_machine(rooms, ways, seed), copied_rooms(rooms, many, seed), seed))


def split_web(sizes, outside, ways, seed):
    """A web with parts of these sizes that no way leaves, and rooms outside of them, called in a strewn order."""
    drawn = Drawn(seed)
    many = sum(sizes) + outside
    rows = []
    for size in sizes:
        begin = len(rows)
        # One way goes round the part, so that ways lead from each room of it to each.
        rows += [[begin + (at + 1) % size] + [begin + drawn.below(size) for _ in range(ways - 1)] for at in range(size)]
    for at in range(outside):
        rows.append([drawn.below(sum(sizes))] + [drawn.below(many) for _ in range(ways - 1)])
    order = drawn.shuffled(range(many))
    return web_by_hand([order.index(goal) for goal in rows[old]] for old in order)


def strewn_webs():
    """Webs of one to eight rooms and one to three ways, of several kinds."""
    webs = []
    for seed in range(24):
        rooms, ways = 1 + seed % 8, 1 + seed // 8
        webs.append(web_by_hand(made_machine(rooms, ways, seed)))
        webs.append(exchanging_web(rooms, ways, seed))
        webs += [turning_web(rooms, ways, beat, seed) for beat in (1, 2, 3, 4) if beat <= rooms]
        webs += [copied_web(old, rooms, ways, seed) for old in (1, 2, 3) if old <= rooms]
    for seed, sizes in enumerate([(1, 1), (2, 1), (2, 2), (3, 1, 1), (4, 2), (3, 3), (1, 1, 1, 1), (5, 2), (2, 2, 2)]):
        for outside in range(9 - sum(sizes)):
            webs += [split_web(sizes, outside, ways, seed) for ways in (1, 2, 3)]
    return webs


def sets_of(machine):
    """All sets of a machine."""
    rooms = range(len(machine))
    return [some for many in range(1, len(machine) + 1) for some in combinations(rooms, many)]


def words_of(machine, longest):
    """All words of a machine of at most so many letters."""
    letters = range(len(machine[0]))
    return [word for length in range(longest + 1) for word in product(letters, repeat=length)]


def all_rooms(machine):
    """The set of all rooms of a machine."""
    return tuple(range(len(machine)))


def goal_by_hand(machine, rooms, word):
    """The set to which a word brings rooms, reckoned room by room."""
    goals = set()
    for here in rooms:
        for letter in word:
            here = machine[here][letter]
        goals.add(here)
    return tuple(sorted(goals))


def is_told(thing):
    """Whether thing is built of tuples, whole numbers, texts, truths and None alone."""
    if type(thing) is tuple:
        return all(is_told(part) for part in thing)
    return thing is None or type(thing) in (int, str, bool)


def nested(depth, wrap, core):
    """A core with so many wraps about it."""
    for _ in range(depth):
        core = wrap(core)
    return core


def changed_in_one_place(thing, others):
    """All things that are like a nest of tuples but for one place, where they have one of the others."""
    for other in others:
        if not (type(other) is type(thing) and other == thing):
            yield other
    if type(thing) is tuple:
        for at, part in enumerate(thing):
            for changed in changed_in_one_place(part, others):
                yield thing[:at] + (changed,) + thing[at + 1:]


class Odd:
    """An object of a kind of which the program knows nothing."""


class Stubborn:
    """An object that can be neither compared, counted, walked nor a key."""

    def refuse(self, *things):
        raise RuntimeError("not to be asked")

    __eq__ = __ne__ = __lt__ = __le__ = __gt__ = __ge__ = __hash__ = refuse
    __len__ = __iter__ = __getitem__ = __contains__ = __bool__ = __int__ = __index__ = __str__ = __repr__ = refuse


def odd_things():
    """Things that are no machine, no word and no set of any machine."""
    deep = [
        nested(60, wrap, core)
        for wrap in (lambda x: (x,), lambda x: [x], lambda x: {0: x}, lambda x: (0, x), lambda x: ((x,), x))
        for core in (0, None)
    ]
    return [
        None, True, False, 0, 1, -1, 7, 10 ** 1000, 1.0, float("nan"), float("inf"), 1j,
        "", "a", "hall cellar hall", "0", b"", b"\x00", bytearray(b"\x00"),
        [], [0], [[0]], [(0,)], [(0, 1), (1, 0)], {}, {0: 0}, {0: (0,)}, {0, 1}, set(), frozenset({0}),
        range(1), range(0), iter([0]), (room for room in (0,)), zip((0,)), {0: 0}.keys(), {0: 0}.values(),
        memoryview(b"\x00"), slice(0, 1), Ellipsis, NotImplemented, object(), Odd, Odd(), Stubborn(), len, int, tuple,
        lambda: 0, ValueError("x"),
        (None,), (True,), (False,), ("",), ("a",), ("0",), (b"\x00",), (0.0,), (1.0,), (0j,), (Ellipsis,), (object(),),
        (Stubborn(),), (Stubborn(), Stubborn()), ((Stubborn(),),),
        (-1,), (10 ** 1000,), (-10 ** 1000,), ([0],), ([],), ({},), ({0},), ((),), ((), ()), (range(1),),
        (((0,),),), ((0,), 0), (0, (0,)), ((0,), None), (None, (0,)),
    ] + deep
