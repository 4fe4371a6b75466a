"""Webs: ways without letters, and the parts of them that no way leaves."""

from bringhome.machines import is_machine


def web_of(machine):
    """The web of the machine: each room's ways without their letters."""
    return tuple([tuple(sorted(row)) for row in machine])


def is_web(thing):
    """Whether thing is a web, of however many rooms and ways."""
    return is_machine(thing) and thing == web_of(thing)


def distances(web, room):
    """The dict from each room to which ways lead from this one, itself too, to the least count of ways there."""
    found = {room: 0}
    level = [room]
    while level:
        behind = []
        for here in level:
            for goal in web[here]:
                if goal not in found:
                    found[goal] = found[here] + 1
                    behind.append(goal)
        level = behind
    return found


def closed_parts(web):
    """The rising tuple of the sets that no way leaves and in which ways lead from each room to each."""
    goals = [tuple(sorted(distances(web, room))) for room in range(len(web))]
    return tuple(sorted({some for some in goals if all([goals[room] == some for room in some])}))
