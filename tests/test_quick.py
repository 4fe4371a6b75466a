"""Points 15 and the first half of 16, (d) of point 3, and what point 2 says of their functions."""

import unittest
from copy import deepcopy
from itertools import combinations

from bringhome.levels import least_word
from bringhome.machines import is_word, renamed
from bringhome.pairs import apart, together
from bringhome.quick import least_many, quick
from samples import (
    EXCHANGE, HALL, ONE_ROOM, PARTS, ROUND, all_rooms, goal_by_hand, is_told, made_machine, round_machine, sets_of,
    small_machines,
)

STILL = ((0, 0), (1, 1), (2, 2))
# Three rounds of two, three and four rooms, gone on by letter 0; letter 1 leads each room to the first of its round.
ROUNDS = ((1, 0), (0, 0), (3, 2), (4, 2), (2, 2), (6, 5), (7, 5), (8, 5), (5, 5))


def together_by_hand(machine, pair):
    """The word that brings a pair together, from the levels of the pair; None where none does."""
    told = least_word(machine, pair, 1)
    return told[1] if told[0] == "word" else None


def quick_by_hand(machine, rooms):
    """What point 15 says, step by step."""
    words = {pair: together_by_hand(machine, pair) for pair in combinations(range(len(machine)), 2)}
    word, steps = (), []
    while True:
        best = None
        for pair in combinations(goal_by_hand(machine, rooms, word), 2):
            if words[pair] is not None and (best is None or len(words[pair]) < len(words[best])):
                best = pair
        if best is None:
            return word, tuple(steps)
        word += words[best]
        steps.append((best, len(word)))


class Quick(unittest.TestCase):
    def test_written_out(self):
        self.assertEqual(quick(HALL, (0, 1, 2)), ((0, 0), (((0, 1), 1), ((0, 1), 2))))
        self.assertEqual(quick(ROUND, (0, 1, 2, 3)), (
            (1, 0, 0, 1, 0, 1, 0, 0, 0, 1), (((0, 3), 1), ((1, 2), 4), ((0, 2), 10))))
        self.assertEqual(quick(PARTS, (0, 1, 2, 3, 4)), ((1, 0, 1), (((0, 1), 1), ((3, 4), 2), ((0, 1), 3))))

    def test_sets_of_one_room(self):
        for machine in (ONE_ROOM, ROUND, HALL, EXCHANGE, made_machine(26, 6, 1)):
            for room in range(len(machine)):
                self.assertEqual(quick(machine, (room,)), ((), ()))

    def test_rooms_no_two_of_which_can_be_brought_together(self):
        for rooms in sets_of(EXCHANGE):
            self.assertEqual(quick(EXCHANGE, rooms), ((), ()))
        for rooms in ((0, 3), (2, 4), (1, 3)):
            self.assertEqual(quick(PARTS, rooms), ((), ()))
        self.assertEqual(quick(STILL, (0, 1, 2)), ((), ()))

    def test_the_pair_with_the_least_many_is_taken(self):
        # The pair (0, 1) needs two letters, the pair (2, 3) one.
        machine = ((2, 0), (3, 1), (2, 2), (2, 3))
        self.assertEqual(together(machine, 0, 1), (0, 0))
        self.assertEqual(together(machine, 2, 3), (0,))
        self.assertEqual(quick(machine, (0, 1, 2, 3)), ((0, 0), (((0, 2), 1), ((2, 3), 2))))
        self.assertEqual(quick(machine, (0, 1)), ((0, 0), (((0, 1), 2),)))

    def test_of_several_the_first_as_pairs_rise(self):
        # Letter 0 brings rooms 2 and 3 together, letter 1 rooms 0 and 1.
        machine = ((0, 0), (1, 0), (2, 2), (2, 3))
        self.assertEqual(quick(machine, (0, 1, 2, 3)), ((1, 0), (((0, 1), 1), ((2, 3), 2))))
        # Letter 0 brings rooms 1 and 2 together, letter 1 rooms 0 and 3: the first pair, not the first letter.
        machine = ((0, 0), (1, 1), (1, 2), (3, 0))
        self.assertEqual(quick(machine, (0, 1, 2, 3)), ((1, 0), (((0, 3), 1), ((1, 2), 2))))

    def test_a_step_may_leave_several_rooms_fewer(self):
        machine = ((0, 1), (0, 0), (0, 2), (0, 3))
        self.assertEqual(quick(machine, (0, 1, 2, 3)), ((0,), (((0, 1), 1),)))

    def test_step_by_step(self):
        machines = [ONE_ROOM, ROUND, HALL, PARTS, EXCHANGE, STILL, ROUNDS, round_machine(6)] + list(small_machines())
        for machine in machines + [made_machine(6, 2, seed) for seed in range(10)]:
            for rooms in sets_of(machine)[::3] + [all_rooms(machine)]:
                self.assertEqual(quick(machine, rooms), quick_by_hand(machine, rooms))

    def test_step_by_step_with_26_rooms(self):
        for machine in [made_machine(26, 2, seed) for seed in range(3)] + [made_machine(26, 6, 1), round_machine(26)]:
            self.assertEqual(quick(machine, all_rooms(machine)), quick_by_hand(machine, all_rooms(machine)))
            self.assertEqual(quick(machine, (2, 3, 5, 7, 11, 13)), quick_by_hand(machine, (2, 3, 5, 7, 11, 13)))

    def test_the_steps_and_their_lengths(self):
        for seed in range(30):
            machine = made_machine(4 + seed % 20, 1 + seed % 6, seed)
            rooms = all_rooms(machine)
            word, steps = quick(machine, rooms)
            self.assertTrue(is_word(machine, word))
            far, begun = apart(machine), 0
            for pair, length in steps:
                ahead = goal_by_hand(machine, rooms, word[:begun])
                self.assertLessEqual(set(pair), set(ahead))
                self.assertEqual(word[begun:length], together(machine, *pair))
                self.assertLess(len(goal_by_hand(machine, rooms, word[:length])), len(ahead))
                begun = length
            self.assertEqual(begun, len(word))
            left = goal_by_hand(machine, rooms, word)
            self.assertTrue(all(pair in far for pair in combinations(left, 2)))
            self.assertLessEqual(len(word), len(steps) * len(machine) * (len(machine) - 1) // 2)


class LeastMany(unittest.TestCase):
    def test_written_out(self):
        self.assertEqual(least_many(ONE_ROOM), (1, (), (0,)))
        self.assertEqual(least_many(HALL), (1, (0, 0), (1,)))
        self.assertEqual(least_many(PARTS), (2, (1, 0, 1), (0, 4)))
        self.assertEqual(least_many(EXCHANGE), (4, (), (0, 1, 2, 3)))
        self.assertEqual(least_many(STILL), (3, (), (0, 1, 2)))

    def test_machines_that_a_word_brings_to_one_room(self):
        for rooms in range(1, 27):
            many, word, kept = least_many(round_machine(rooms))
            self.assertEqual((many, len(kept)), (1, 1))
            self.assertEqual(goal_by_hand(round_machine(rooms), tuple(range(rooms)), word), kept)

    def test_machines_that_none_brings_to_one_room(self):
        self.assertEqual(least_many(ROUNDS)[0], 3)
        self.assertEqual(least_many(tuple((room,) * 6 for room in range(26)))[0], 26)
        # A round of rooms by two letters that turn it by one and by two.
        machine = tuple(((room + 1) % 26, (room + 2) % 26) for room in range(26))
        self.assertEqual(least_many(machine), (26, (), tuple(range(26))))

    def test_it_is_the_word_of_quick_for_all_rooms(self):
        machines = [ROUND, HALL, PARTS, EXCHANGE, ROUNDS] + list(small_machines())
        for machine in machines + [made_machine(2 + seed, 1 + seed % 6, seed) for seed in range(25)]:
            many, word, kept = least_many(machine)
            self.assertEqual(word, quick(machine, all_rooms(machine))[0])
            self.assertEqual(kept, goal_by_hand(machine, all_rooms(machine), word))
            self.assertEqual(many, len(kept))
            self.assertLessEqual(set(combinations(kept, 2)), set(apart(machine)))

    def test_no_word_leaves_fewer(self):
        for machine in [ROUND, HALL, PARTS, EXCHANGE] + list(small_machines()) + [
                made_machine(7, 1 + seed % 3, seed) for seed in range(20)]:
            many = least_many(machine)[0]
            self.assertEqual(least_word(machine, all_rooms(machine), many)[0], "word")
            if many > 1:
                self.assertEqual(least_word(machine, all_rooms(machine), many - 1)[0], "none")

    def test_called_otherwise_as_few_are_left(self):
        order = (4, 2, 0, 5, 1, 3)
        for seed in range(20):
            machine = made_machine(6, 1 + seed % 3, seed)
            self.assertEqual(least_many(renamed(machine, order))[0], least_many(machine)[0])


class PointTwo(unittest.TestCase):
    def asks(self):
        machine = made_machine(9, 3, 4)
        return [
            (quick, (machine, (1, 4, 5, 8))), (quick, (machine, tuple(range(9)))), (quick, (EXCHANGE, (0, 1))),
            (least_many, (machine,)), (least_many, (PARTS,)), (least_many, (ONE_ROOM,)),
        ]

    def test_what_is_handed_in_is_the_same_behind_the_call(self):
        for asked, handed in self.asks():
            before = deepcopy(handed)
            asked(*handed)
            self.assertEqual(handed, before)

    def test_asked_again_the_same_is_told(self):
        for asked, handed in self.asks():
            self.assertEqual(asked(*handed), asked(*handed))

    def test_all_that_is_told_is_tuples_and_whole_numbers(self):
        for asked, handed in self.asks():
            self.assertTrue(is_told(asked(*handed)))


if __name__ == "__main__":
    unittest.main()
