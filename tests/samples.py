"""Machines, words and odd things that several test files ask of the program."""

from itertools import combinations, product

ONE_ROOM = ((0,),)
# Letter 0 goes round; letter 1 leads room 3 to room 0 and stays else.
ROUND = ((1, 0), (2, 1), (3, 2), (0, 0))
HALL = ((1, 0, 2), (1, 2, 0), (0, 0, 0))


def small_machines(most_rooms=3, most_letters=2):
    """All machines of at most so many rooms and letters."""
    for rooms in range(1, most_rooms + 1):
        for letters in range(1, most_letters + 1):
            rows = list(product(range(rooms), repeat=letters))
            yield from product(rows, repeat=rooms)


def made_machine(rooms, letters, seed):
    """A machine whose ways look strewn, the same for the same numbers."""
    state = seed * 7919 + 17
    rows = []
    for _ in range(rooms):
        row = []
        for _ in range(letters):
            state = (state * 1103515245 + 12345) % 2147483648
            row.append((state >> 8) % rooms)
        rows.append(tuple(row))
    return tuple(rows)


def made_word(letters, length, seed):
    """A word of so many letters of an alphabet, the same for the same numbers."""
    return tuple(row[0] % letters for row in made_machine(max(length, 1), 1, seed))[:length]


def sets_of(machine):
    """All sets of a machine."""
    rooms = range(len(machine))
    return [some for many in range(1, len(machine) + 1) for some in combinations(rooms, many)]


def words_of(machine, longest):
    """All words of a machine of at most so many letters."""
    letters = range(len(machine[0]))
    return [word for length in range(longest + 1) for word in product(letters, repeat=length)]


def is_told(thing):
    """Whether thing is built of tuples, whole numbers, texts, truths and None alone."""
    if type(thing) is tuple:
        return all(is_told(part) for part in thing)
    return thing is None or type(thing) in (int, str, bool)


def nested(depth, wrap, core):
    """A core with so many wraps about it."""
    for _ in range(depth):
        core = wrap(core)
    return core


class Odd:
    """An object of a kind of which the program knows nothing."""


def odd_things():
    """Things that are no machine, no word and no set of any machine."""
    deep = [
        nested(60, wrap, core)
        for wrap in (lambda x: (x,), lambda x: [x], lambda x: {0: x}, lambda x: (0, x), lambda x: ((x,), x))
        for core in (0, None)
    ]
    return [
        None, True, False, 0, 1, -1, 7, 10 ** 1000, 1.0, float("nan"), float("inf"), 1j,
        "", "a", "hall cellar hall", "0", b"", b"\x00", bytearray(b"\x00"),
        [], [0], [[0]], [(0,)], [(0, 1), (1, 0)], {}, {0: 0}, {0: (0,)}, {0, 1}, set(), frozenset({0}),
        range(1), range(0), iter([0]), (room for room in (0,)), zip((0,)), {0: 0}.keys(), {0: 0}.values(),
        memoryview(b"\x00"), slice(0, 1), Ellipsis, NotImplemented, object(), Odd, Odd(), len, int, tuple,
        lambda: 0, ValueError("x"),
        (None,), (True,), (False,), ("",), ("a",), ("0",), (b"\x00",), (0.0,), (1.0,), (0j,), (Ellipsis,), (object(),),
        (-1,), (10 ** 1000,), (-10 ** 1000,), ([0],), ([],), ({},), ({0},), ((),), ((), ()), (range(1),),
        (((0,),),), ((0,), 0), (0, (0,)), ((0,), None), (None, (0,)),
    ] + deep
