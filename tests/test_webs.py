"""Points 20 and 21, and what point 2 says of their functions."""

import unittest
from copy import deepcopy
from itertools import combinations_with_replacement, product

from bringhome.machines import is_machine, relettered, renamed
from bringhome.webs import closed_parts, is_web, web_of
from samples import (
    EXCHANGE, HALL, ONE_ROOM, PARTS, ROUND, Stubborn, all_rooms, changed_in_one_place, is_told, made_machine, nested,
    odd_things, round_machine, sets_of, small_machines, small_webs, wide_machines,
)

# Rooms 0 and 1 lie in no closed part; rooms 2, rooms 3 and 5, and room 4 do.
STREWN = ((1, 2), (0, 3), (2, 2), (5, 5), (4, 4), (3, 5))
OTHERS = [None, True, False, 0, 1, 2, 3, 4, 5, -1, 1.0, "", "a", (), (0,), (0, 0), (0, 1), (1, 0), (1, 2), (0, 1, 2),
          [], [0, 1], {}, 10 ** 30, (True, 1), (0, True)]


def is_web_by_hand(thing):
    """What point 20 says, asked of the bare kinds."""
    if type(thing) is not tuple or len(thing) == 0:
        return False
    for row in thing:
        if type(row) is not tuple or len(row) == 0 or not all(type(goal) is int for goal in row):
            return False
        if len(row) != len(thing[0]) or min(row) < 0 or max(row) >= len(thing) or list(row) != sorted(row):
            return False
    return True


def goals_by_hand(web):
    """For each room the set of rooms to which ways lead from it, itself too, by ways put together till none is new."""
    goals = [{room} | set(web[room]) for room in range(len(web))]
    while True:
        wider = [set().union(*(goals[goal] for goal in some)) for some in goals]
        if wider == goals:
            return goals
        goals = wider


def is_closed_by_hand(web, goals, some):
    """What point 21 says of a closed part: no way leaves it, and ways lead from each room of it to each."""
    if any(goal not in some for room in some for goal in web[room]):
        return False
    return all(other in goals[one] for one in some for other in some)


def parts_by_hand(web):
    """All sets of a web that are closed parts, rising."""
    goals = goals_by_hand(web)
    return tuple(sorted(some for some in sets_of(web) if is_closed_by_hand(web, goals, some)))


class IsWeb(unittest.TestCase):
    def says(self, answer, thing):
        self.assertIs(is_web(thing), answer)

    def test_written_out(self):
        for thing in (ONE_ROOM, ((0, 0),), ((0, 1), (0, 1)), ((0, 1), (1, 1)), ((1, 1, 2), (0, 1, 2), (0, 0, 0)),
                      ((0,), (1,), (2,))):
            self.says(True, thing)

    def test_ways_alike(self):
        for many in range(1, 7):
            self.says(True, ((0,) * many,))
            self.says(True, ((1,) * many, (0,) * many))
            self.says(True, ((0,) * (many - 1) + (1,), (0,) + (1,) * (many - 1)))

    def test_a_row_that_does_not_rise(self):
        self.says(False, ((1, 0), (0, 1)))
        self.says(False, ((0, 1), (1, 0)))
        self.says(False, ((0, 1, 2), (0, 2, 1), (0, 1, 2)))
        self.says(False, ((0, 1, 0), (0, 0, 1)))
        for room in range(26):
            rows = [(0, 1, 2, 3, 4, 5)] * 26
            rows[room] = (0, 1, 2, 3, 5, 4)
            self.says(False, tuple(rows))

    def test_a_row_too_long_or_too_short(self):
        self.says(False, ((0, 1), (0,)))
        self.says(False, ((0,), (0, 1)))
        self.says(False, ((0, 1), (0, 1, 1)))
        self.says(False, ((0, 1), ()))
        self.says(False, ((),))
        self.says(False, ((), ()))
        for room in range(26):
            rows = [(0, 1, 2, 3, 4, 5)] * 26
            for row in ((0, 1, 2, 3, 4), (0, 1, 2, 3, 4, 5, 6), ()):
                self.says(False, tuple(rows[:room] + [row] + rows[room + 1:]))

    def test_rooms_that_are_not_there(self):
        for thing in (((1,),), ((-1,),), ((0, 2), (0, 1)), ((-1, 0), (0, 1)), ((0, 1), (1, 10 ** 30)), ((26,) * 26,)):
            self.says(False, thing)

    def test_no_room(self):
        self.says(False, ())

    def test_more_than_26_rooms_or_6_ways(self):
        self.says(True, tuple((room, room) for room in range(40)))
        self.says(True, ((0,) * 40,))
        self.says(False, tuple((room + 1, room) for room in range(39)) + ((0, 1),))

    def test_webs_are_machines_but_not_all_machines_are_webs(self):
        for machine in list(small_machines()) + [ROUND, HALL, PARTS, EXCHANGE] + wide_machines():
            self.says(is_web_by_hand(machine), machine)
            self.says(True, web_of(machine))

    def test_otherwise_in_one_place(self):
        for web in (ONE_ROOM, ((0, 1), (0, 1)), ((0, 1), (1, 1)), STREWN, ((1, 1, 2), (0, 1, 2), (0, 0, 0))):
            for thing in changed_in_one_place(web, OTHERS):
                self.says(is_web_by_hand(thing), thing)

    def test_truths_and_lists(self):
        for thing in (((False,),), ((0, True), (0, 1)), ([0],), [(0,)], [[0]], ((0, 1), [0, 1]), ((0.0,),), ("0",),
                      ("",), ((None,),), {0: (0,)}, iter(((0,),)), ({0},), (range(1),), (b"\x00",), ((0, 1), (0, 1.0)),
                      ((0, 1), (0, None)), ((Stubborn(),),), (Stubborn(),), Stubborn(), ((0, Stubborn()), (0, 1)),
                      ((Stubborn(), 0), (0, 1))):
            self.says(False, thing)

    def test_anything_else(self):
        for at, thing in enumerate(odd_things()):
            for wrapped in (thing, (thing,), ((thing,),), ((0, thing), (0, 1)), ((0, 1), thing), (thing, (0, 1))):
                with self.subTest(at=at):
                    self.says(is_web_by_hand(wrapped), wrapped)

    def test_sixty_deep(self):
        for wrap in (lambda x: (x,), lambda x: (x, x), lambda x: ((0, 1), x), lambda x: [x]):
            for core in (0, (0, 1), None):
                self.says(False, nested(60, wrap, core))


class WebOf(unittest.TestCase):
    def test_written_out(self):
        self.assertEqual(web_of(ONE_ROOM), ONE_ROOM)
        self.assertEqual(web_of(((1, 0), (1, 1))), ((0, 1), (1, 1)))
        self.assertEqual(web_of(HALL), ((0, 1, 2), (0, 1, 2), (0, 0, 0)))
        self.assertEqual(web_of(((2, 0, 2, 1), (0, 0, 0, 0), (1, 2, 1, 0))), ((0, 1, 2, 2), (0,) * 4, (0, 1, 1, 2)))

    def test_each_way_is_there_as_often(self):
        for machine in list(small_machines()) + wide_machines() + [made_machine(9, 5, seed) for seed in range(20)]:
            web = web_of(machine)
            self.assertTrue(is_web_by_hand(web))
            self.assertTrue(is_machine(web))
            self.assertEqual([sorted(row) for row in machine], [list(row) for row in web])

    def test_a_web_is_its_own_web(self):
        for web in small_webs():
            self.assertEqual(web_of(web), web)

    def test_letters_called_otherwise(self):
        for seed in range(10):
            machine = made_machine(7, 3, seed)
            for letters in ((1, 2, 0), (2, 1, 0), (0, 2, 1)):
                self.assertEqual(web_of(relettered(machine, letters)), web_of(machine))


class ClosedParts(unittest.TestCase):
    def test_written_out(self):
        self.assertEqual(closed_parts(ONE_ROOM), ((0,),))
        self.assertEqual(closed_parts(STREWN), ((2,), (3, 5), (4,)))
        self.assertEqual(closed_parts(((0, 1), (1, 1))), ((1,),))
        self.assertEqual(closed_parts(((0, 1), (0, 1))), ((0, 1),))
        self.assertEqual(closed_parts(web_of(PARTS)), ((0, 1, 2), (4,)))

    def test_parts_of_one_room(self):
        for rooms in (1, 2, 5, 26):
            for ways in (1, 3, 6):
                web = tuple((room,) * ways for room in range(rooms))
                self.assertEqual(closed_parts(web), tuple((room,) for room in range(rooms)))

    def test_all_rooms(self):
        for rooms in range(1, 27):
            turn = tuple(((room + 1) % rooms,) for room in range(rooms))
            self.assertEqual(closed_parts(turn), (tuple(range(rooms)),))
            self.assertEqual(closed_parts(web_of(round_machine(rooms))), (tuple(range(rooms)),))

    def test_rooms_that_lie_in_none(self):
        for rooms in range(2, 27):
            chain = tuple((min(room + 1, rooms - 1),) for room in range(rooms))
            self.assertEqual(closed_parts(chain), ((rooms - 1,),))
            back = tuple((max(room - 1, 0),) for room in range(rooms))
            self.assertEqual(closed_parts(back), ((0,),))
        # Ways lead between rooms 0 and 1 and back, but one way leads out.
        self.assertEqual(closed_parts(((1, 1), (0, 2), (2, 2))), ((2,),))

    def test_several_of_them_rising(self):
        # Rounds of rooms that lie crosswise: the evens, and every second odd one.
        web = tuple(((room + 2) % 12,) if room % 2 == 0 else ((room + 4) % 12,) for room in range(12))
        self.assertEqual(closed_parts(web), ((0, 2, 4, 6, 8, 10), (1, 5, 9), (3, 7, 11)))
        # A set may begin with another one's rooms between: parts rise as tuples, not by their lengths.
        web = ((3,), (1,), (2,), (0,), (4,))
        self.assertEqual(closed_parts(web), ((0, 3), (1,), (2,), (4,)))

    def test_a_set_that_no_way_leaves_but_that_is_no_part(self):
        web = ((0, 1), (1, 1), (2, 2))
        self.assertEqual(closed_parts(web), ((1,), (2,)))

    def test_all_small_webs(self):
        for web in small_webs():
            self.assertEqual(closed_parts(web), parts_by_hand(web))

    def test_webs_of_some_rooms(self):
        for seed in range(200):
            web = web_of(made_machine(1 + seed % 8, 1 + seed % 3, seed))
            self.assertEqual(closed_parts(web), parts_by_hand(web))
        for first, second, third in product(combinations_with_replacement(range(3), 2), repeat=3):
            web = (first, second, third, (3, 4), (3, 3))
            self.assertEqual(closed_parts(web), parts_by_hand(web))

    def test_26_rooms(self):
        webs = [web_of(machine) for machine in wide_machines()]
        webs += [web_of(made_machine(26, 1 + seed % 6, seed)) for seed in range(40)]
        for web in webs:
            goals = goals_by_hand(web)
            parts = closed_parts(web)
            self.assertEqual(parts, tuple(sorted(set(parts))))
            for part in parts:
                self.assertTrue(is_closed_by_hand(web, goals, part))
            # From each room ways lead into one: so there is one, and there is none beside these.
            for room in all_rooms(web):
                self.assertTrue(any(goals[room] >= set(part) for part in parts))
                in_parts = any(room in part for part in parts)
                self.assertEqual(in_parts, all(room in goals[goal] for goal in goals[room]))

    def test_called_otherwise_rooms_lie_in_closed_parts_as_they_did(self):
        order = (4, 2, 6, 0, 5, 1, 3)
        for seed in range(40):
            machine = made_machine(7, 1 + seed % 2, seed)
            parts = closed_parts(web_of(renamed(machine, order)))
            called = sorted(tuple(sorted(order[room] for room in part)) for part in parts)
            self.assertEqual(tuple(called), closed_parts(web_of(machine)))


class PointTwo(unittest.TestCase):
    def asks(self):
        web = web_of(made_machine(9, 2, 4))
        return [
            (is_web, (web,)), (is_web, ([[0], {1: [2]}],)), (web_of, (made_machine(9, 2, 4),)), (web_of, (ROUND,)),
            (closed_parts, (web,)), (closed_parts, (STREWN,)),
        ]

    def test_what_is_handed_in_is_the_same_behind_the_call(self):
        for asked, handed in self.asks():
            before = deepcopy(handed)
            asked(*handed)
            self.assertEqual(handed, before)

    def test_asked_again_the_same_is_told(self):
        for asked, handed in self.asks():
            self.assertEqual(asked(*handed), asked(*handed))

    def test_all_that_is_told_is_tuples_numbers_and_truths(self):
        for asked, handed in self.asks():
            self.assertTrue(is_told(asked(*handed)))

    def test_nothing_is_taken_out_of_what_is_walked_once(self):
        for wrap in (lambda x: x, lambda x: (x,), lambda x: ((0, 1), x), lambda x: ((x,),)):
            inner = iter([0, 1])
            self.assertIs(is_web(wrap(inner)), False)
            self.assertEqual(list(inner), [0, 1])


if __name__ == "__main__":
    unittest.main()
