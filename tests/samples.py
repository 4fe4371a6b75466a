"""Machines, words and odd things that several test files ask of the program."""

from itertools import combinations, combinations_with_replacement, product

ONE_ROOM = ((0,),)
# Letter 0 goes round; letter 1 leads room 3 to room 0 and stays else.
ROUND = ((1, 0), (2, 1), (3, 2), (0, 0))
HALL = ((1, 0, 2), (1, 2, 0), (0, 0, 0))
# Letters that only exchange rooms: a round of four, and two neighbours that change places.
EXCHANGE = ((1, 1), (2, 0), (3, 2), (0, 3))
# Two parts, rooms 0 to 2 and rooms 3 and 4, that no letter leaves; each of them comes to one room.
PARTS = ((1, 0), (2, 0), (0, 2), (4, 3), (4, 4))
# Letters 0 and 1 lead each pair of 26 rooms to another pair; letters 2 to 5 stay.
WIDE_EXCHANGE = tuple(((room + 1) % 26, (room * 5) % 26, room, room, room, room) for room in range(26))
# Rooms of like parity come together and others never: each letter keeps or turns all parities.
PARITY = tuple(((room + 1) % 26, room if room < 24 else room - 24, room % 2, (room + 2) % 26, 25 - room, room)
               for room in range(26))


def round_machine(rooms):
    """Cerny's machine of so many rooms: (rooms - 1) squared letters, no fewer, bring all its rooms to one."""
    return tuple(((room + 1) % rooms, room if room < rooms - 1 else 0) for room in range(rooms))


def small_machines(most_rooms=3, most_letters=2):
    """All machines of at most so many rooms and letters."""
    for rooms in range(1, most_rooms + 1):
        for letters in range(1, most_letters + 1):
            rows = list(product(range(rooms), repeat=letters))
            yield from product(rows, repeat=rooms)


def small_webs(most_rooms=3, most_ways=3):
    """All webs of at most so many rooms and ways."""
    for rooms in range(1, most_rooms + 1):
        for ways in range(1, most_ways + 1):
            rows = list(combinations_with_replacement(range(rooms), ways))
            yield from product(rows, repeat=rooms)


def made_machine(rooms, letters, seed):
    """A machine whose ways look strewn, the same for the same numbers."""
    state = seed * 7919 + 17
    rows = []
    for _ in range(rooms):
        row = []
        for _ in range(letters):
            state = (state * 1103515245 + 12345) % 2147483648
            row.append((state >> 8) % rooms)
        rows.append(tuple(row))
    return tuple(rows)


def made_word(letters, length, seed):
    """A word of so many letters of an alphabet, the same for the same numbers."""
    return tuple(row[0] % letters for row in made_machine(max(length, 1), 1, seed))[:length]


def wide_machines():
    """Machines of 26 rooms and 6 letters."""
    return [WIDE_EXCHANGE, PARITY, tuple(row * 3 for row in round_machine(26))] + [
        made_machine(26, 6, seed) for seed in range(4)]


def with_copies(machine, copied, seed):
    """A machine with a room for each of copied, rooms of this one, each at least once: it goes on as that one does,
    to whichever copy."""
    strewn = made_machine(len(copied), len(machine[0]), seed)
    copies = [[at for at, room in enumerate(copied) if room == old] for old in range(len(machine))]
    return tuple(tuple(copies[goal][pick % len(copies[goal])] for goal, pick in zip(machine[room], strewn[at]))
                 for at, room in enumerate(copied))


def copied_rooms(rooms, many, seed):
    """Each of so many rooms once, and rooms of them again, so that there are many in all."""
    return tuple(range(rooms)) + tuple(row[0] % rooms for row in made_machine(many, 1, seed))[:many - rooms]


def partings_of(many):
    """All partings of so many rooms."""
    if many == 0:
        yield ()
        return
    for ahead in partings_of(many - 1):
        for number in range(max(ahead, default=-1) + 2):
            yield ahead + (number,)


def parted(marks):
    """The parting that has rooms of like marks together."""
    firsts = list(dict.fromkeys(marks))
    return tuple(firsts.index(mark) for mark in marks)


def sets_of(machine):
    """All sets of a machine."""
    rooms = range(len(machine))
    return [some for many in range(1, len(machine) + 1) for some in combinations(rooms, many)]


def words_of(machine, longest):
    """All words of a machine of at most so many letters."""
    letters = range(len(machine[0]))
    return [word for length in range(longest + 1) for word in product(letters, repeat=length)]


def all_rooms(machine):
    """The set of all rooms of a machine."""
    return tuple(range(len(machine)))


def goal_by_hand(machine, rooms, word):
    """The set to which a word brings rooms, reckoned room by room."""
    goals = set()
    for here in rooms:
        for letter in word:
            here = machine[here][letter]
        goals.add(here)
    return tuple(sorted(goals))


def is_told(thing):
    """Whether thing is built of tuples, whole numbers, texts, truths and None alone."""
    if type(thing) is tuple:
        return all(is_told(part) for part in thing)
    return thing is None or type(thing) in (int, str, bool)


def nested(depth, wrap, core):
    """A core with so many wraps about it."""
    for _ in range(depth):
        core = wrap(core)
    return core


def changed_in_one_place(thing, others):
    """All things that are like a nest of tuples but for one place, where they have one of the others."""
    for other in others:
        if not (type(other) is type(thing) and other == thing):
            yield other
    if type(thing) is tuple:
        for at, part in enumerate(thing):
            for changed in changed_in_one_place(part, others):
                yield thing[:at] + (changed,) + thing[at + 1:]


class Odd:
    """An object of a kind of which the program knows nothing."""


class Stubborn:
    """An object that can be neither compared, counted, walked nor a key."""

    def refuse(self, *things):
        raise RuntimeError("not to be asked")

    __eq__ = __ne__ = __lt__ = __le__ = __gt__ = __ge__ = __hash__ = refuse
    __len__ = __iter__ = __getitem__ = __contains__ = __bool__ = __int__ = __index__ = __str__ = __repr__ = refuse


def odd_things():
    """Things that are no machine, no word and no set of any machine."""
    deep = [
        nested(60, wrap, core)
        for wrap in (lambda x: (x,), lambda x: [x], lambda x: {0: x}, lambda x: (0, x), lambda x: ((x,), x))
        for core in (0, None)
    ]
    return [
        None, True, False, 0, 1, -1, 7, 10 ** 1000, 1.0, float("nan"), float("inf"), 1j,
        "", "a", "hall cellar hall", "0", b"", b"\x00", bytearray(b"\x00"),
        [], [0], [[0]], [(0,)], [(0, 1), (1, 0)], {}, {0: 0}, {0: (0,)}, {0, 1}, set(), frozenset({0}),
        range(1), range(0), iter([0]), (room for room in (0,)), zip((0,)), {0: 0}.keys(), {0: 0}.values(),
        memoryview(b"\x00"), slice(0, 1), Ellipsis, NotImplemented, object(), Odd, Odd(), Stubborn(), len, int, tuple,
        lambda: 0, ValueError("x"),
        (None,), (True,), (False,), ("",), ("a",), ("0",), (b"\x00",), (0.0,), (1.0,), (0j,), (Ellipsis,), (object(),),
        (Stubborn(),), (Stubborn(), Stubborn()), ((Stubborn(),),),
        (-1,), (10 ** 1000,), (-10 ** 1000,), ([0],), ([],), ({},), ({0},), ((),), ((), ()), (range(1),),
        (((0,),),), ((0,), 0), (0, (0,)), ((0,), None), (None, (0,)),
    ] + deep
