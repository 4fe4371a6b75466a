"""The stable parting: rooms that may as well be one, and words that show that no others may."""

from bringhome.machines import all_rooms, is_word
from bringhome.pairs import apart, climbed, lengths, lengths_to, pairs_of, rungs_to
from bringhome.partings import is_kept, is_parting, parted_by
from bringhome.walking import brought


def pairs_across(machine, parting):
    """The rising list of the pairs of rooms that the parting has not together."""
    return [(one, other) for one, other in pairs_of(all_rooms(machine)) if parting[one] != parting[other]]


def pairs_within(machine, parting):
    """The rising list of the pairs of rooms that the parting has together."""
    return [(one, other) for one, other in pairs_of(all_rooms(machine)) if parting[one] == parting[other]]


def parted_but(machine, found):
    """The parting that has just the pairs together that are not in found."""
    rooms = all_rooms(machine)
    # Rooms that lie with a third one lie with one another, so the first one can stand for its class.
    return parted_by([min([one for one in rooms if one == room or (one < room and (one, room) not in found)])
                      for room in rooms])


def stable_shown(machine):
    """The stable parting, and for each pair that it has not together the first shortest word to a pair apart."""
    found = lengths_to(machine, list(apart(machine)))
    parting = parted_but(machine, found)
    steps = rungs_to(machine, found)
    return parting, tuple([climbed(machine, steps, pair) for pair in pairs_across(machine, parting)])


def stable(machine):
    """The parting that has two rooms together where, behind whatever word, some word brings them together."""
    return stable_shown(machine)[0]


def are_ways_apart(machine, parting, ways, found):
    """Whether ways has for each pair that the parting has not together a word to a pair that is not in found."""
    pairs = pairs_across(machine, parting)
    if not isinstance(ways, tuple) or len(ways) != len(pairs):
        return False
    if not all([is_word(machine, word) for word in ways]):
        return False
    return all([brought(machine, pair, word) not in found for pair, word in zip(pairs, ways)])


def shows_stable(machine, told):
    """Whether told is a kept parting of pairs that come together, and words that lead all others to pairs apart."""
    if not isinstance(told, tuple) or len(told) != 2:
        return False
    parting, ways = told
    if not is_parting(machine, parting) or not is_kept(machine, parting):
        return False
    # Sets of one room are found, too: a word to one is no way to a pair apart.
    found = lengths(machine)
    if not all([pair in found for pair in pairs_within(machine, parting)]):
        return False
    return are_ways_apart(machine, parting, ways, found)
