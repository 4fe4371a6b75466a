"""Pairs of rooms: shortest words that bring them together, and the pairs that none does."""

from bringhome.machines import all_rooms
from bringhome.walking import stepped


def pairs_of(rooms):
    """The rising list of the pairs of rooms of a set."""
    return [(one, other) for one in rooms for other in rooms if one < other]


def ways_back(machine):
    """The dict from each set to which a letter leads some pair to the list of these pairs."""
    sources = {}
    for pair in pairs_of(all_rooms(machine)):
        for letter in range(len(machine[0])):
            goal = stepped(machine, pair, letter)
            if goal not in sources:
                sources[goal] = []
            sources[goal].append(pair)
    return sources


def lengths_to(machine, goals):
    """The dict from each goal, a set of one room or a pair, to 0, and from each other pair that words lead to one to
    the least length of these words."""
    sources = ways_back(machine)
    level = goals
    found = {goal: 0 for goal in goals}
    while level:
        behind = []
        for goal in level:
            for pair in sources.get(goal, []):
                if pair not in found:
                    found[pair] = found[goal] + 1
                    behind.append(pair)
        level = behind
    return found


def lengths(machine):
    """The dict from each set of one room to 0, and from each pair that words bring together to the least length."""
    return lengths_to(machine, [(room,) for room in range(len(machine))])


def first_letter(machine, pair, found):
    """The first letter with which a shortest word that leads the pair to a goal begins, found the lengths to these."""
    goals = [stepped(machine, pair, letter) for letter in range(len(machine[0]))]
    return min([letter for letter, goal in enumerate(goals) if goal in found and found[goal] == found[pair] - 1])


def rungs_to(machine, found):
    """The dict from each pair that words lead to a goal, and that is none itself, to the length and the first letter
    of the first of the shortest, found the lengths to these goals."""
    pairs = [pair for pair in pairs_of(all_rooms(machine)) if found.get(pair, 0) > 0]
    return {pair: (found[pair], first_letter(machine, pair, found)) for pair in pairs}


def rungs(machine):
    """The dict from each pair that some word brings together to the length and the first letter of its together."""
    return rungs_to(machine, lengths(machine))


def climbed(machine, steps, pair):
    """The word that leads the pair to a goal, steps the rungs to these goals."""
    # Each first letter is the least that leads one rung down, so no word as short stands ahead of this one.
    word = []
    here = pair
    while here in steps:
        letter = steps[here][1]
        word.append(letter)
        here = stepped(machine, here, letter)
    return tuple(word)


def together(machine, one, other):
    """The first of the shortest words that lead two unlike rooms to one; None where none does."""
    pair = (min(one, other), max(one, other))
    steps = rungs(machine)
    return climbed(machine, steps, pair) if pair in steps else None


def ladder(machine):
    """The rising tuple of triples (pair, many, letter) of the pairs that some word brings together."""
    return tuple([(pair, many, letter) for pair, (many, letter) in rungs(machine).items()])


def apart(machine):
    """The rising tuple of the pairs that no word brings together."""
    found = lengths(machine)
    return tuple([pair for pair in pairs_of(all_rooms(machine)) if pair not in found])
