"""Where words lead: from one room, and from the rooms of a set."""


def led(machine, room, word):
    """The room to which the word leads from a room, letter by letter."""
    here = room
    for letter in word:
        here = machine[here][letter]
    return here


def stepped(machine, rooms, letter):
    """The set of the rooms to which one letter leads from those of a set."""
    return tuple(sorted({machine[room][letter] for room in rooms}))


def walked(machine, rooms, word):
    """The tuple of the sets to which the word's beginnings bring rooms, from no letter to all."""
    sets = [rooms]
    for letter in word:
        sets.append(stepped(machine, sets[-1], letter))
    return tuple(sets)


def brought(machine, rooms, word):
    """The set of the rooms to which the word leads from those of a set."""
    return walked(machine, rooms, word)[-1]
