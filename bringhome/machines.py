"""Machines, their words and their sets: what they are, and the same ones called otherwise."""


def is_whole(thing):
    """Whether thing is a whole number."""
    # For isinstance a truth is an int, but here it is no number.
    return isinstance(thing, int) and not isinstance(thing, bool)


def is_below(thing, many):
    """Whether thing is a whole number from 0 to below many."""
    return is_whole(thing) and 0 <= thing < many


def is_tuple_below(thing, many):
    """Whether thing is a tuple, maybe empty, of whole numbers from 0 to below many."""
    return isinstance(thing, tuple) and all([is_below(part, many) for part in thing])


def is_machine(thing):
    """Whether thing is a machine, of however many rooms and letters."""
    if not isinstance(thing, tuple) or len(thing) == 0:
        return False
    if not all([is_tuple_below(row, len(thing)) for row in thing]):
        return False
    letters = len(thing[0])
    return letters > 0 and all([len(row) == letters for row in thing])


def is_word(machine, thing):
    """Whether thing is a word of the machine."""
    return is_tuple_below(thing, len(machine[0]))


def is_set(machine, thing):
    """Whether thing is a set of rooms of the machine."""
    if not is_tuple_below(thing, len(machine)) or len(thing) == 0:
        return False
    return all([one < other for one, other in zip(thing, thing[1:])])


def all_rooms(machine):
    """The set of all rooms of the machine."""
    return tuple(range(len(machine)))


def is_within(rooms, goal):
    """Whether all rooms of a set are in another one."""
    return all([room in goal for room in rooms])


def renamed(machine, order):
    """The machine whose room k is the room order[k] of this one, with the same ways."""
    new_names = {room: at for at, room in enumerate(order)}
    return tuple([tuple([new_names[room] for room in machine[old]]) for old in order])


def relettered(machine, letters):
    """The machine whose letter k leads as the letter letters[k] of this one."""
    return tuple([tuple([row[letter] for letter in letters]) for row in machine])
