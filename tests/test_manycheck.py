"""The second half of point 16, and what point 2 says of it."""

import unittest
from copy import deepcopy
from itertools import combinations

from bringhome.levels import levels
from bringhome.manycheck import shows_many
from bringhome.quick import least_many
from samples import (
    EXCHANGE, HALL, ONE_ROOM, PARTS, ROUND, Stubborn, all_rooms, changed_in_one_place, goal_by_hand, made_machine,
    made_word, nested, odd_things, round_machine, sets_of, small_machines, words_of,
)

STILL = ((0, 0), (1, 1), (2, 2))
OTHERS = [None, True, False, 0, 1, 2, 3, 4, -1, 1.0, 2.0, "", "a", (), (0,), (1,), (0, 3), (3, 0), (0, 1), (1, 0, 1),
          (9,), (0, 4), (0, 0), [], [0], {}, 10 ** 30, (True,), (1, 0, 1, 0)]


def are_apart_by_hand(machine, rooms):
    """Whether no set to which a word brings two of the rooms is of one room."""
    return not any(len(some) == 1 for pair in combinations(rooms, 2) for level in levels(machine, pair)
                   for some in level)


def shows_many_by_hand(machine, told):
    """What point 16 says, word by word."""
    if type(told) is not tuple or len(told) != 3:
        return False
    many, word, kept = told
    if type(many) is not int or type(word) is not tuple or type(kept) is not tuple:
        return False
    if not all(type(letter) is int and 0 <= letter < len(machine[0]) for letter in word):
        return False
    if not kept or not all(type(room) is int and 0 <= room < len(machine) for room in kept):
        return False
    if list(kept) != sorted(set(kept)) or len(kept) != many:
        return False
    return len(goal_by_hand(machine, all_rooms(machine), word)) == many and are_apart_by_hand(machine, kept)


class ShowsMany(unittest.TestCase):
    def says(self, answer, machine, told):
        self.assertIs(shows_many(machine, told), answer)

    def test_what_least_many_tells(self):
        machines = [ONE_ROOM, ROUND, HALL, PARTS, EXCHANGE, STILL, round_machine(26)] + list(small_machines())
        for machine in machines + [made_machine(2 + seed, 1 + seed % 6, seed) for seed in range(25)]:
            self.says(True, machine, least_many(machine))

    def test_another_word(self):
        self.says(True, HALL, (1, (0, 0), (1,)))
        self.says(True, HALL, (1, (1, 1), (1,)))
        self.says(True, HALL, (1, (0, 0, 2, 1, 0), (1,)))
        self.says(False, HALL, (1, (0,), (1,)))
        self.says(False, HALL, (1, (), (1,)))
        for word in words_of(PARTS, 5):
            self.says(len(goal_by_hand(PARTS, all_rooms(PARTS), word)) == 2, PARTS, (2, word, (0, 4)))
        for word in words_of(EXCHANGE, 3) + [made_word(2, 4000, 1)]:
            self.says(True, EXCHANGE, (4, word, (0, 1, 2, 3)))

    def test_another_set(self):
        for room in range(3):
            self.says(True, HALL, (1, (0, 0), (room,)))
        for kept in sets_of(PARTS):
            right = len(kept) == 2 and kept[0] < 3 <= kept[1]
            self.says(right, PARTS, (2, (1, 0, 1), kept))
        self.says(False, EXCHANGE, (4, (), (0, 1, 2)))
        self.says(False, EXCHANGE, (3, (), (0, 1, 2)))

    def test_rooms_that_some_word_brings_together(self):
        self.says(False, HALL, (3, (), (0, 1, 2)))
        self.says(False, HALL, (2, (0,), (0, 1)))
        self.says(False, PARTS, (2, (1, 0, 1), (0, 1)))
        self.says(False, PARTS, (2, (1, 0, 1), (3, 4)))
        # No two of its rooms need more letters than these: 325.
        machine = round_machine(26)
        self.says(False, machine, (2, least_many(machine)[1][:-1], (0, 13)))
        self.says(False, machine, (26, (), tuple(range(26))))

    def test_a_number_otherwise(self):
        for machine in (ONE_ROOM, HALL, PARTS, EXCHANGE):
            many, word, kept = least_many(machine)
            for other in (0, -1, many - 1, many + 1, 10 ** 30, float(many), str(many), None, True, False, (many,)):
                self.says(False, machine, (other, word, kept))

    def test_a_truth_is_no_number(self):
        self.says(True, ONE_ROOM, (1, (), (0,)))
        self.says(False, ONE_ROOM, (True, (), (0,)))
        self.says(False, ONE_ROOM, (1, (False,), (0,)))
        self.says(False, ONE_ROOM, (1, (), (False,)))
        self.says(True, ONE_ROOM, (1, (0, 0), (0,)))

    def test_what_is_no_word_and_no_set(self):
        for word in ([1, 0, 1], (1, 0, 2), (1, 0, -1), "bab", None, (1, (0, 1)), (1, 0.0, 1), {}, 0, (Stubborn(),)):
            self.says(False, PARTS, (2, word, (0, 4)))
        for kept in ([0, 4], (4, 0), (0, 0), (), (0, 5), (-1, 4), (0, 4.0), (0, "4"), None, "04", {0, 4}, 2,
                     (0, None), ((0, 4),), (0, (4,)), (0, Stubborn()), range(2)):
            self.says(False, PARTS, (2, (1, 0, 1), kept))

    def test_more_and_fewer_things(self):
        told = least_many(PARTS)
        for thing in ((), told[:1], told[:2], told + (0,), told + told, list(told), (told,), dict(enumerate(told)),
                      told[::-1], (told[0], told[2], told[1]), iter(told)):
            self.says(False, PARTS, thing)

    def test_otherwise_in_one_place(self):
        for machine in (ONE_ROOM, HALL, PARTS, EXCHANGE, STILL):
            for told in changed_in_one_place(least_many(machine), OTHERS):
                self.says(shows_many_by_hand(machine, told), machine, told)

    def test_small_machines_with_all_sets(self):
        for machine in small_machines():
            for word in words_of(machine, 2):
                for kept in sets_of(machine):
                    for many in range(4):
                        told = (many, word, kept)
                        self.says(shows_many_by_hand(machine, told), machine, told)

    def test_what_is_shown_is_the_least(self):
        for machine in [HALL, PARTS, EXCHANGE, STILL] + list(small_machines()):
            least = least_many(machine)[0]
            for word in words_of(machine, 2):
                for kept in sets_of(machine):
                    if shows_many(machine, (len(kept), word, kept)):
                        self.assertEqual(len(kept), least)

    def test_anything_else(self):
        for machine in (ONE_ROOM, ROUND, HALL, EXCHANGE):
            many, word, kept = least_many(machine)
            for at, thing in enumerate(odd_things()):
                for told in (thing, (thing,), (thing, word, kept), (many, thing, kept), (many, word, thing),
                             (many, (thing,), kept), (many, word, (thing,)), (many, word, kept, thing),
                             (thing, thing, thing), (many, word, kept[:-1] + (thing,))):
                    with self.subTest(at=at):
                        self.assertIs(type(shows_many(machine, told)), bool)
        for thing in (None, 0, True, "", "abc", [], {}, Stubborn(), (), (None,) * 3, (0, (), ()), (1, (), ())):
            self.says(False, ONE_ROOM, thing)

    def test_sixty_deep(self):
        for wrap in (lambda x: (x,), lambda x: (x, x, x), lambda x: (1, x, x), lambda x: (1, (), x), lambda x: [x]):
            for core in (0, (), None):
                self.says(False, ONE_ROOM, nested(60, wrap, core))


class PointTwo(unittest.TestCase):
    def asks(self):
        machine = made_machine(9, 3, 4)
        return [(machine, least_many(machine)), (machine, list(least_many(machine))), (PARTS, (2, [1, 0, 1], (0, 4))),
                (PARTS, {2: [1]})]

    def test_what_is_handed_in_is_the_same_behind_the_call(self):
        for handed in self.asks():
            before = deepcopy(handed)
            shows_many(*handed)
            self.assertEqual(handed, before)

    def test_asked_again_the_same_is_told(self):
        for handed in self.asks():
            self.assertIs(shows_many(*handed), shows_many(*handed))

    def test_nothing_is_taken_out_of_what_is_walked_once(self):
        for wrap in (lambda x: x, lambda x: (1, x, (0,)), lambda x: (1, (), x)):
            inner = iter([0, 0])
            shows_many(ONE_ROOM, wrap(inner))
            self.assertEqual(list(inner), [0, 0])


if __name__ == "__main__":
    unittest.main()
