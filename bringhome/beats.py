"""Beats: phases through which the ways of a part lead round, and whether told ones are right."""

from bringhome.machines import is_set, is_tuple_below, is_whole
from bringhome.webs import closed_parts, distances


def greatest_divisor(one, other):
    """The greatest number that divides both, neither below 0 and not both 0."""
    while other > 0:
        one, other = other, one % other
    return one


def beat_of(web, part):
    """The triple (part, beat, phases) of a closed part."""
    found = distances(web, part[0])
    beat = 0
    for room in part:
        for goal in web[room]:
            # Where phases are the distances' rests, a way leads to the next one just where beat divides this number.
            beat = greatest_divisor(beat, abs(found[room] + 1 - found[goal]))
    return part, beat, tuple([found[room] % beat for room in part])


def beats(web):
    """The tuple of the triples (part, beat, phases) of all closed parts."""
    return tuple([beat_of(web, part) for part in closed_parts(web)])


def beats_sum(told):
    """All beats of such a tuple together."""
    return sum([beat for part, beat, phases in told])


def goes_round(web, phase_of, beat):
    """Whether each way of these rooms leads to one of them, from its phase to the next."""
    return all([goal in phase_of and phase_of[goal] == (phase_of[room] + 1) % beat
                for room in phase_of for goal in web[room]])


def is_beat(web, thing):
    """Whether thing is a triple (part, beat, phases) of a set that no way leaves, with phases of just so many kinds."""
    if not isinstance(thing, tuple) or len(thing) != 3:
        return False
    part, beat, phases = thing
    if not is_set(web, part) or not is_whole(beat) or not is_tuple_below(phases, beat):
        return False
    if len(phases) != len(part) or len(set(phases)) != beat:
        return False
    return goes_round(web, dict(zip(part, phases)), beat)


def shows_beats(web, told):
    """Whether told is a tuple of such triples with no room in two of them."""
    if not isinstance(told, tuple) or not all([is_beat(web, thing) for thing in told]):
        return False
    rooms = [room for part, beat, phases in told for room in part]
    return len(set(rooms)) == len(rooms)
