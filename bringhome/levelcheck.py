"""Whether levels and shortest words that are told are right, whoever tells them."""

from bringhome.machines import is_set, is_within, is_word
from bringhome.walking import brought, stepped


def is_level(machine, thing):
    """Whether thing is a tuple of sets, maybe of none."""
    return isinstance(thing, tuple) and all([is_set(machine, some) for some in thing])


def first_places(shown):
    """The dict from each set to the first place whose level has it."""
    places = {}
    for at, level in enumerate(shown):
        for some in level:
            if some not in places:
                places[some] = at
    return places


def stays(machine, some, places, last):
    """Whether each letter brings the set to one that stands at places 0 to last."""
    goals = [stepped(machine, some, letter) for letter in range(len(machine[0]))]
    return all([goal in places and places[goal] <= last for goal in goals])


def shows_levels(machine, rooms, shown, closed):
    """Whether shown has the sets to which words of fewer letters than it has levels, or all words, bring rooms."""
    # Kinds come first: what is no set may be no key either.
    if not isinstance(shown, tuple) or not all([is_level(machine, level) for level in shown]):
        return False
    if len(shown) == 0:
        return not closed
    if rooms not in shown[0]:
        return False
    places = first_places(shown)
    asked = shown if closed else shown[:-1]
    return all([stays(machine, some, places, at + 1) for at, level in enumerate(asked) for some in level])


def begins(told, word, many):
    """Whether told is a tuple of so many things that begins with this text."""
    return isinstance(told, tuple) and len(told) == many and isinstance(told[0], str) and told[0] == word


def has_due(shown, is_due):
    """Whether some set of the levels is due."""
    return any([is_due(some) for level in shown for some in level])


def shows_word(machine, rooms, is_due, word, shown):
    """Whether the word brings rooms to a set that is due, and shown shows that none that is shorter does."""
    if not is_word(machine, word) or not is_due(brought(machine, rooms, word)):
        return False
    if not shows_levels(machine, rooms, shown, False):
        return False
    return len(shown) == len(word) and not has_due(shown, is_due)


def shows_search(machine, rooms, is_due, told):
    """Whether told is right of the shortest words that bring rooms to a set that is due."""
    if begins(told, "word", 3):
        return shows_word(machine, rooms, is_due, told[1], told[2])
    if begins(told, "none", 2):
        return shows_levels(machine, rooms, told[1], True) and not has_due(told[1], is_due)
    return False


def shows_least(machine, rooms, many, told):
    """Whether told is right of the shortest words that leave at most many of the rooms."""
    return shows_search(machine, rooms, lambda some: len(some) <= many, told)


def shows_into(machine, rooms, goal, told):
    """Whether told is right of the shortest words that bring rooms to a set within goal."""
    return shows_search(machine, rooms, lambda some: is_within(some, goal), told)
