"""Whether a told number of rooms that any word leaves is right, whoever tells it."""

from bringhome.machines import all_rooms, is_set, is_whole, is_word
from bringhome.pairs import lengths, pairs_of
from bringhome.walking import brought


def are_apart(machine, rooms):
    """Whether no word brings any two rooms of a set together."""
    found = lengths(machine)
    return all([pair not in found for pair in pairs_of(rooms)])


def shows_many(machine, told):
    """Whether told is a number, a word that leaves so many of all rooms, and so many rooms that are all apart."""
    if not isinstance(told, tuple) or len(told) != 3:
        return False
    many, word, kept = told
    if not is_whole(many) or not is_word(machine, word) or not is_set(machine, kept):
        return False
    left = brought(machine, all_rooms(machine), word)
    return len(left) == many and len(kept) == many and are_apart(machine, kept)
