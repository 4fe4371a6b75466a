"""Partings: rooms that lie together in classes, and machines folded by them."""

from bringhome.machines import is_below


def is_parting(machine, thing):
    """Whether thing is a parting of the rooms of the machine."""
    if not isinstance(thing, tuple) or len(thing) != len(machine):
        return False
    many = 0
    for number in thing:
        if not is_below(number, many + 1):
            return False
        many = max(many, number + 1)
    return True


def class_rows(machine, parting):
    """The list with a tuple for each room: the classes of the rooms to which its letters lead."""
    return [tuple([parting[goal] for goal in row]) for row in machine]


def is_kept(machine, parting):
    """Whether each letter leads rooms of one class to rooms of one class."""
    rows = class_rows(machine, parting)
    return all([row == rows[parting.index(number)] for row, number in zip(rows, parting)])


def folded(machine, parting):
    """The machine whose rooms are the classes of a kept parting."""
    rows = class_rows(machine, parting)
    return tuple([rows[parting.index(number)] for number in range(max(parting) + 1)])


def parted_by(marks):
    """The parting that has rooms together whose marks are alike, marks a list with one for each room."""
    numbers = {}
    for mark in marks:
        if mark not in numbers:
            numbers[mark] = len(numbers)
    return tuple([numbers[mark] for mark in marks])


def kept_by(machine, pairs):
    """The kept parting that has the two rooms of each pair in one class and parts most."""
    marks = list(range(len(machine)))
    due = list(pairs)
    while due:
        one, other = due.pop()
        old, new = marks[one], marks[other]
        if old != new:
            marks = [new if mark == old else mark for mark in marks]
            # Rooms that came together by others are led on together by these others' ways.
            due.extend(list(zip(machine[one], machine[other])))
    return parted_by(marks)
