"""Whether ladders and pairs apart that are told are right, whoever tells them."""

from bringhome.machines import is_below, is_set, is_whole
from bringhome.walking import stepped


def is_pair(machine, thing):
    """Whether thing is a pair of rooms of the machine."""
    return is_set(machine, thing) and len(thing) == 2


def is_triple(machine, thing):
    """Whether thing is a tuple of a pair, a whole number and a letter."""
    if not isinstance(thing, tuple) or len(thing) != 3:
        return False
    return is_pair(machine, thing[0]) and is_whole(thing[1]) and is_below(thing[2], len(machine[0]))


def goes_down(machine, triple, counts):
    """Whether the letter of a triple leads its pair to one room, and many is 1, or to a pair with many less 1."""
    pair, many, letter = triple
    goal = stepped(machine, pair, letter)
    if len(goal) == 1:
        return many == 1
    return goal in counts and counts[goal] == many - 1


def shows_ladder(machine, told):
    """Whether told is a tuple of triples each of whose pairs is brought together as it says."""
    # Kinds come first: what is no pair may be no key either.
    if not isinstance(told, tuple) or not all([is_triple(machine, triple) for triple in told]):
        return False
    counts = {pair: many for pair, many, letter in told}
    if len(counts) < len(told):
        return False
    return all([goes_down(machine, triple, counts) for triple in told])


def shows_apart(machine, told):
    """Whether told is a tuple of pairs that each letter leads to pairs that stand there."""
    if not isinstance(told, tuple) or not all([is_pair(machine, pair) for pair in told]):
        return False
    there = {pair: True for pair in told}
    if len(there) < len(told):
        return False
    return all([stepped(machine, pair, letter) in there for pair in told for letter in range(len(machine[0]))])
