"""Pairs of rooms: shortest words that bring them together, and the pairs that none does."""

from bringhome.machines import all_rooms
from bringhome.walking import stepped


def pairs_of(rooms):
    """The rising list of the pairs of rooms of a set."""
    return [(one, other) for one in rooms for other in rooms if one < other]


def ways_back(machine):
    """The dict from each set to which a letter leads some pair to the list of these pairs."""
    sources = {}
    for pair in pairs_of(all_rooms(machine)):
        for letter in range(len(machine[0])):
            goal = stepped(machine, pair, letter)
            if goal not in sources:
                sources[goal] = []
            sources[goal].append(pair)
    return sources


def lengths(machine):
    """The dict from each set of one room to 0, and from each pair that words bring together to the least length."""
    sources = ways_back(machine)
    level = [(room,) for room in range(len(machine))]
    found = {goal: 0 for goal in level}
    while level:
        behind = []
        for goal in level:
            for pair in sources.get(goal, []):
                if pair not in found:
                    found[pair] = found[goal] + 1
                    behind.append(pair)
        level = behind
    return found


def first_letter(machine, pair, found):
    """The first letter with which a shortest word that brings the pair together begins."""
    goals = [stepped(machine, pair, letter) for letter in range(len(machine[0]))]
    return min([letter for letter, goal in enumerate(goals) if goal in found and found[goal] == found[pair] - 1])


def rungs(machine):
    """The dict from each pair that some word brings together to the length and the first letter of its together."""
    found = lengths(machine)
    pairs = [pair for pair in pairs_of(all_rooms(machine)) if pair in found]
    return {pair: (found[pair], first_letter(machine, pair, found)) for pair in pairs}


def climbed(machine, steps, pair):
    """The word that brings the pair together, steps the rungs of the machine."""
    # Each first letter is the least that leads one rung down, so no word as short stands ahead of this one.
    word = []
    here = pair
    while len(here) == 2:
        letter = steps[here][1]
        word.append(letter)
        here = stepped(machine, here, letter)
    return tuple(word)


def together(machine, one, other):
    """The first of the shortest words that lead two unlike rooms to one; None where none does."""
    pair = (min(one, other), max(one, other))
    steps = rungs(machine)
    return climbed(machine, steps, pair) if pair in steps else None


def ladder(machine):
    """The rising tuple of triples (pair, many, letter) of the pairs that some word brings together."""
    return tuple([(pair, many, letter) for pair, (many, letter) in rungs(machine).items()])


def apart(machine):
    """The rising tuple of the pairs that no word brings together."""
    found = lengths(machine)
    return tuple([pair for pair in pairs_of(all_rooms(machine)) if pair not in found])
