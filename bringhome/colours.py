"""Letters put on the ways of a web so that a word leaves as few rooms as can be."""

from bringhome.beats import beats, beats_sum
from bringhome.quick import least_many


def exchanges(row):
    """The list of the rows in which two letters have exchanged their ways, these being unlike."""
    rows = []
    for one in range(len(row)):
        for other in range(one + 1, len(row)):
            if row[one] != row[other]:
                rows.append(row[:one] + (row[other],) + row[one + 1:other] + (row[one],) + row[other + 1:])
    return rows


def neighbours(machine):
    """The list of the machines in which at one room two letters have exchanged their ways."""
    return [machine[:at] + (other,) + machine[at + 1:] for at, row in enumerate(machine) for other in exchanges(row)]


def next_machines(level, seen):
    """The list of the neighbours of these machines that are not seen; seen is told of them, too."""
    behind = []
    for machine in level:
        for other in neighbours(machine):
            if other not in seen:
                seen[other] = True
                behind.append(other)
    return behind


def with_fewer(machine, many):
    """The nearest machine of the same web, exchange by exchange, of which some word leaves fewer rooms than many."""
    seen = {machine: True}
    level = [machine]
    while level:
        for other in level:
            if least_many(other)[0] < many:
                return other
        level = next_machines(level, seen)
    return None


def coloured(web):
    """A machine whose web it is, a word of it that leaves as many rooms as all beats together, and the beats."""
    shown = beats(web)
    machine = web
    many, word, kept = least_many(machine)
    # Exchanges lead to all machines of the web, and one of these always leaves no more rooms than the beats ask for.
    while many > beats_sum(shown):
        machine = with_fewer(machine, many)
        many, word, kept = least_many(machine)
    return machine, word, shown
