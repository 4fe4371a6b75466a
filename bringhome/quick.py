"""Words that are found quickly, pair by pair, and how few rooms any word leaves."""

from bringhome.machines import all_rooms
from bringhome.pairs import climbed, pairs_of, rungs
from bringhome.walking import brought


def nearest(ways, rooms):
    """Of the pairs of a set that have a way the first one with the least many; None where none has one."""
    found = [(ways[pair][0], pair) for pair in pairs_of(rooms) if pair in ways]
    return min(found)[1] if found else None


def quick(machine, rooms):
    """A word behind which no two rooms that are left can be brought together, and the steps in which it was found."""
    ways = rungs(machine)
    here = rooms
    word = ()
    steps = []
    pair = nearest(ways, here)
    while pair is not None:
        part = climbed(machine, ways, pair)
        here = brought(machine, here, part)
        word = word + part
        steps.append((pair, len(word)))
        pair = nearest(ways, here)
    return word, tuple(steps)


def least_many(machine):
    """How few rooms any word leaves, a word that leaves so many, and the set of those that it leaves."""
    rooms = all_rooms(machine)
    word = quick(machine, rooms)[0]
    kept = brought(machine, rooms, word)
    return len(kept), word, kept
