"""Levels of a set, and shortest words that leave few rooms or bring rooms into others."""

from bringhome.machines import is_within
from bringhome.walking import stepped


def next_level(machine, level, seen):
    """The sets of the level behind this one, each with the first of its shortest words; seen is told of them, too."""
    # The words of a level rise, and so do those made of them: the first word that comes to a set is its first one.
    behind = {}
    for some, word in level.items():
        for letter in range(len(machine[0])):
            goal = stepped(machine, some, letter)
            if goal not in seen:
                seen[goal] = True
                behind[goal] = word + (letter,)
    return behind


def searched(machine, rooms, is_due):
    """The first shortest word to a set that is due, with the levels ahead of it; or that none does, with all levels."""
    seen = {rooms: True}
    level = {rooms: ()}
    shown = []
    while level:
        for some, word in level.items():
            if is_due(some):
                return ("word", word, tuple(shown))
        shown.append(tuple(sorted(level)))
        level = next_level(machine, level, seen)
    return ("none", tuple(shown))


def levels(machine, rooms):
    """The tuple of all levels of a set that are not empty."""
    return searched(machine, rooms, lambda some: False)[1]


def least_word(machine, rooms, many):
    """The shortest word that leaves at most many of the rooms, and levels that show that none is shorter."""
    return searched(machine, rooms, lambda some: len(some) <= many)


def word_into(machine, rooms, goal):
    """The shortest word that brings rooms to a set within goal, and levels that show that none is shorter."""
    return searched(machine, rooms, lambda some: is_within(some, goal))
