"""Point 13, (c) of point 3, and what point 2 says of their functions."""

import unittest
from copy import deepcopy
from itertools import combinations

from bringhome.levels import least_word
from bringhome.machines import is_word, renamed
from bringhome.pairs import apart, ladder, together
from samples import (
    EXCHANGE, HALL, ONE_ROOM, PARITY, PARTS, ROUND, WIDE_EXCHANGE, goal_by_hand, is_told, made_machine, round_machine,
    small_machines, wide_machines, words_of,
)


def pairs_by_hand(machine):
    """All pairs of a machine, rising."""
    return list(combinations(range(len(machine)), 2))


def lengths_by_hand(machine):
    """The least count of letters for each pair that comes together, round by round."""
    told, many = {}, 0
    while True:
        many += 1
        news = []
        for pair in pairs_by_hand(machine):
            goals = [goal_by_hand(machine, pair, (letter,)) for letter in range(len(machine[0]))]
            if pair not in told and any(len(goal) == 1 or goal in told for goal in goals):
                news.append(pair)
        if not news:
            return told
        told.update({pair: many for pair in news})


class Together(unittest.TestCase):
    def test_written_out(self):
        self.assertEqual(together(HALL, 0, 1), (0,))
        self.assertEqual(together(HALL, 0, 2), (1,))
        self.assertEqual(together(HALL, 1, 2), (2,))
        self.assertEqual(together(ROUND, 0, 3), (1,))
        self.assertEqual(together(ROUND, 0, 1), (0, 0, 0, 1))
        self.assertEqual(together(ROUND, 1, 3), (1, 0, 0, 0, 1))

    def test_either_order_of_the_two_rooms(self):
        for machine in [ROUND, HALL, PARTS, EXCHANGE, made_machine(12, 6, 1)] + list(small_machines()):
            for one, other in pairs_by_hand(machine):
                self.assertEqual(together(machine, one, other), together(machine, other, one))
        self.assertEqual(together(ROUND, 3, 0), (1,))
        self.assertEqual(together(ROUND, 3, 1), (1, 0, 0, 0, 1))

    def test_none_does(self):
        for one, other in pairs_by_hand(EXCHANGE):
            self.assertIsNone(together(EXCHANGE, one, other))
        for one in (0, 1, 2):
            for other in (3, 4):
                self.assertIsNone(together(PARTS, one, other))
                self.assertIsNone(together(PARTS, other, one))
        self.assertIsNone(together(((0,), (1,)), 0, 1))
        self.assertIsNone(together(WIDE_EXCHANGE, 3, 20))
        self.assertIsNone(together(PARITY, 3, 20))

    def test_the_first_of_several_as_tuples_rise(self):
        # Letter 0 exchanges the rooms; each of the others brings them together.
        self.assertEqual(together(((1, 0, 1), (0, 0, 1)), 0, 1), (1,))
        # Both letters lead on to a pair one letter from home: that of letter 0 stands behind the other.
        machine = ((4, 4), (4, 4), (5, 5), (5, 5), (2, 0), (3, 1))
        self.assertEqual(together(machine, 4, 5), (0, 0))
        # Letter 0 leads on to a pair that needs longer.
        machine = ((2, 4), (3, 5), (0, 2), (1, 3), (4, 4), (4, 5))
        self.assertEqual(together(machine, 0, 1), (1, 0))
        self.assertEqual(together(machine, 2, 3), (0, 1, 0))

    def test_by_trying_all_words(self):
        for machine in [ROUND, HALL, PARTS, EXCHANGE] + list(small_machines(3, 2)) + [
                made_machine(4, 2, seed) for seed in range(30)]:
            tried = words_of(machine, 5)
            for one, other in pairs_by_hand(machine):
                right = [word for word in tried if len(goal_by_hand(machine, (one, other), word)) == 1]
                told = together(machine, one, other)
                if right:
                    self.assertEqual(told, right[0])
                else:
                    self.assertTrue(told is None or len(told) > 5)

    def test_as_the_least_word_of_the_pair(self):
        machines = wide_machines() + [made_machine(12, 2, seed) for seed in range(10)] + [round_machine(9)]
        for machine in machines:
            for one, other in pairs_by_hand(machine)[::7]:
                told = least_word(machine, (one, other), 1)
                self.assertEqual(together(machine, one, other), told[1] if told[0] == "word" else None)

    def test_it_leads_both_to_one_room(self):
        for machine in wide_machines():
            for one, other in pairs_by_hand(machine)[::14]:
                word = together(machine, other, one)
                if word is not None:
                    self.assertTrue(is_word(machine, word))
                    self.assertEqual(len(goal_by_hand(machine, (one, other), word)), 1)
                    for many in range(len(word)):
                        self.assertEqual(len(goal_by_hand(machine, (one, other), word[:many])), 2)

    def test_a_long_word_of_26_rooms(self):
        machine = round_machine(26)
        told = lengths_by_hand(machine)
        for one, other in pairs_by_hand(machine)[::9]:
            self.assertEqual(len(together(machine, one, other)), told[one, other])
        self.assertEqual(max(told.values()), 325)
        self.assertEqual(len(together(machine, *max(told, key=told.get))), 325)


class Ladder(unittest.TestCase):
    def test_written_out(self):
        self.assertEqual(ladder(HALL), (((0, 1), 1, 0), ((0, 2), 1, 1), ((1, 2), 1, 2)))
        self.assertEqual(ladder(ROUND), (
            ((0, 1), 4, 0), ((0, 2), 6, 0), ((0, 3), 1, 1), ((1, 2), 3, 0), ((1, 3), 5, 1), ((2, 3), 2, 0)))
        self.assertEqual(ladder(PARTS), (((0, 1), 1, 1), ((0, 2), 2, 0), ((1, 2), 3, 0), ((3, 4), 1, 0)))

    def test_one_room(self):
        for machine in (ONE_ROOM, ((0, 0, 0, 0, 0, 0),)):
            self.assertEqual(ladder(machine), ())
            self.assertEqual(apart(machine), ())

    def test_letters_that_only_exchange_rooms(self):
        self.assertEqual(ladder(EXCHANGE), ())
        self.assertEqual(apart(EXCHANGE), ((0, 1), (0, 2), (0, 3), (1, 2), (1, 3), (2, 3)))
        self.assertEqual(ladder(WIDE_EXCHANGE), ())
        self.assertEqual(apart(WIDE_EXCHANGE), tuple(pairs_by_hand(WIDE_EXCHANGE)))

    def test_each_triple_is_of_its_together(self):
        machines = [ROUND, HALL, PARTS, made_machine(9, 3, 1)] + list(small_machines()) + wide_machines()[1:4]
        for machine in machines:
            for pair, many, letter in ladder(machine)[::1 if len(machine) < 20 else 9]:
                word = together(machine, *pair)
                self.assertEqual((many, letter), (len(word), word[0]))

    def test_many_by_hand(self):
        machines = [ROUND, HALL, PARTS, round_machine(12)] + list(small_machines())
        for machine in machines + [made_machine(10, 2, seed) for seed in range(10)] + [made_machine(26, 6, 2)]:
            told = lengths_by_hand(machine)
            self.assertEqual({pair: many for pair, many, letter in ladder(machine)}, told)
            self.assertEqual(apart(machine), tuple(pair for pair in pairs_by_hand(machine) if pair not in told))

    def test_the_letter_is_the_first_that_does(self):
        for machine in [ROUND, HALL, PARTS] + list(small_machines()) + wide_machines():
            told = {pair: many for pair, many, letter in ladder(machine)}
            for pair, many, letter in ladder(machine):
                below = [k for k in range(len(machine[0]))
                         if told.get(goal_by_hand(machine, pair, (k,)), 0 if len(
                             goal_by_hand(machine, pair, (k,))) == 1 else None) == many - 1]
                self.assertEqual(letter, below[0])

    def test_each_pair_stands_once_in_the_ladder_or_apart(self):
        machines = [ROUND, HALL, PARTS, EXCHANGE, ONE_ROOM] + list(small_machines()) + wide_machines()
        for machine in machines:
            told = [triple[0] for triple in ladder(machine)] + list(apart(machine))
            self.assertEqual(sorted(told), pairs_by_hand(machine))

    def test_they_rise(self):
        for machine in [ROUND, HALL, PARTS, EXCHANGE] + wide_machines():
            for told in (ladder(machine), apart(machine)):
                self.assertEqual(list(told), sorted(told))


class Apart(unittest.TestCase):
    def test_written_out(self):
        self.assertEqual(apart(ROUND), ())
        self.assertEqual(apart(PARTS), ((0, 3), (0, 4), (1, 3), (1, 4), (2, 3), (2, 4)))
        self.assertEqual(apart(((0, 0), (1, 0), (2, 2))), ((0, 2), (1, 2)))

    def test_rooms_of_unlike_parity(self):
        self.assertEqual(apart(PARITY), tuple(
            (one, other) for one, other in pairs_by_hand(PARITY) if (one + other) % 2))

    def test_no_word_brings_them_together(self):
        for machine in [PARTS, EXCHANGE] + list(small_machines()):
            for pair in apart(machine):
                self.assertFalse(any(len(goal_by_hand(machine, pair, word)) == 1 for word in words_of(machine, 4)))
                self.assertIsNone(together(machine, *pair))

    def test_each_letter_leads_them_to_such(self):
        for machine in [PARTS, EXCHANGE, WIDE_EXCHANGE, PARITY] + list(small_machines()):
            told = apart(machine)
            for pair in told:
                for letter in range(len(machine[0])):
                    self.assertIn(goal_by_hand(machine, pair, (letter,)), told)

    def test_called_otherwise_they_are_as_they_were(self):
        order = (4, 2, 0, 1, 3)
        other = renamed(PARTS, order)
        self.assertEqual(sorted(tuple(sorted(order[room] for room in pair)) for pair in apart(other)),
                         list(apart(PARTS)))
        self.assertEqual(sorted((tuple(sorted(order[room] for room in pair)), many, letter)
                                for pair, many, letter in ladder(other)), list(ladder(PARTS)))


class PointTwo(unittest.TestCase):
    def asks(self):
        machine = made_machine(9, 3, 4)
        return [
            (together, (machine, 4, 1)), (together, (PARTS, 0, 4)), (ladder, (machine,)), (ladder, (EXCHANGE,)),
            (apart, (machine,)), (apart, (PARTS,)),
        ]

    def test_what_is_handed_in_is_the_same_behind_the_call(self):
        for asked, handed in self.asks():
            before = deepcopy(handed)
            asked(*handed)
            self.assertEqual(handed, before)

    def test_asked_again_the_same_is_told(self):
        for asked, handed in self.asks():
            self.assertEqual(asked(*handed), asked(*handed))

    def test_all_that_is_told_is_tuples_whole_numbers_and_none(self):
        for asked, handed in self.asks():
            self.assertTrue(is_told(asked(*handed)))


if __name__ == "__main__":
    unittest.main()
