"""Point 23, (f) of point 3, and what point 2 says of them."""

import unittest
from copy import deepcopy
from itertools import permutations, product

from bringhome.beats import beats
from bringhome.colourcheck import shows_coloured
from bringhome.colours import coloured
from bringhome.machines import is_machine, is_word
from bringhome.quick import least_many
from bringhome.webs import web_of
from samples import (
    ONE_ROOM, all_rooms, copied_web, exchanging_web, goal_by_hand, is_told, made_machine, made_word, small_webs,
    split_web, strewn_webs, turning_web, web_by_hand, words_of,
)

# Webs whose ways, lettered as they rise, let no word leave as few rooms as the beats ask for.
NEEDS_OTHERS = [
    ((0, 1), (1, 2), (0, 1)), ((0, 1), (2, 3), (1, 2), (0, 1)), ((0, 3), (1, 3), (3, 5), (2, 4), (1, 3), (3, 5)),
    ((0, 4), (1, 3), (1, 3), (3, 4), (5, 6), (4, 5), (3, 4)),
    ((6, 7), (2, 3), (1, 2), (1, 2), (6, 7), (4, 5), (5, 6), (6, 7)),
    ((2, 6, 7), (1, 6, 7), (3, 6, 7), (0, 6, 7), (6, 7, 7), (0, 4, 7), (4, 6, 6), (6, 7, 7)),
    ((4, 6), (5, 7), (4, 6), (5, 7), (0, 3), (1, 2), (0, 3), (1, 2)),
]


def all_lettered(web):
    """All machines whose web this is."""
    return list(product(*(sorted(set(permutations(row))) for row in web)))


def beats_many(web):
    """How many all beats of a web are together."""
    return sum(beat for part, beat, phases in beats(web))


class Coloured(unittest.TestCase):
    def check(self, web):
        told = coloured(web)
        self.assertIs(type(told), tuple)
        machine, word, shown = told
        self.assertIs(is_machine(machine), True)
        self.assertEqual(tuple(tuple(sorted(row)) for row in machine), web)
        self.assertIs(is_word(machine, word), True)
        self.assertEqual(shown, beats(web))
        self.assertEqual(len(goal_by_hand(machine, all_rooms(web), word)), beats_many(web))
        self.assertIs(shows_coloured(web, told), True)

    def test_all_small_webs(self):
        for web in small_webs():
            self.check(web)

    def test_webs_of_four_rooms(self):
        for web in list(small_webs(4, 2))[-10000::7]:
            self.check(web)

    def test_webs_of_several_kinds(self):
        for web in strewn_webs():
            self.check(web)

    def test_webs_whose_ways_need_other_letters(self):
        for web in NEEDS_OTHERS:
            self.assertGreater(least_many(web)[0], beats_many(web))
            self.check(web)

    def test_beats_of_more_than_one(self):
        for seed in range(10):
            for rooms, ways, beat in ((8, 3, 2), (8, 2, 4), (8, 3, 4), (6, 2, 3), (7, 3, 3), (8, 2, 8), (5, 3, 5)):
                self.check(turning_web(rooms, ways, beat, seed))

    def test_ways_that_exchange_rooms(self):
        for seed in range(20):
            for rooms, ways in ((8, 2), (8, 3), (7, 2), (6, 3)):
                self.check(exchanging_web(rooms, ways, seed))

    def test_copies_of_rooms(self):
        for seed in range(20):
            for rooms, many, ways in ((2, 8, 2), (3, 8, 2), (4, 8, 3), (3, 7, 3), (2, 6, 2)):
                self.check(copied_web(rooms, many, ways, seed))

    def test_several_closed_parts_and_rooms_outside(self):
        for seed in range(10):
            for sizes, outside in (((3, 2), 3), ((2, 2, 2), 2), ((4, 3), 1), ((1, 1, 1), 5), ((4, 4), 0), ((1,), 7)):
                for ways in (1, 2, 3):
                    self.check(split_web(sizes, outside, ways, seed))

    def test_ways_alike(self):
        for rooms in range(1, 9):
            for ways in (1, 2, 3):
                # All ways of a room lead to one room: the letters all lead alike.
                for seed in range(4):
                    self.check(tuple(row * ways for row in made_machine(rooms, 1, seed)))
                self.check(tuple(((room + 1) % rooms,) * ways for room in range(rooms)))
                self.check(((0,) * ways,) * rooms)
        for seed in range(10):
            self.check(web_by_hand((one, one, other) for one, other in made_machine(8, 2, seed)))

    def test_each_room_leads_to_all(self):
        for rooms in (1, 2, 3):
            self.check((tuple(range(rooms)),) * rooms)

    def test_somewhat_more_rooms_and_ways(self):
        for seed in range(3):
            self.check(web_of(made_machine(10, 4, seed)))
            self.check(turning_web(10, 2, 2, seed))

    def test_what_is_told_of_a_turn(self):
        turn = ((1,), (2,), (0,))
        machine, word, shown = coloured(turn)
        self.assertEqual((machine, shown), (turn, (((0, 1, 2), 3, (0, 1, 2)),)))
        self.assertEqual(len(goal_by_hand(machine, (0, 1, 2), word)), 3)
        self.assertEqual(coloured(ONE_ROOM)[0], ONE_ROOM)


class NoFewer(unittest.TestCase):
    def test_with_all_letters_all_words(self):
        for web in list(small_webs(3, 2)) + [((0, 1, 2), (0, 1, 1), (0, 2, 2)), NEEDS_OTHERS[1]]:
            many = beats_many(web)
            # How few rooms are left by any word, of all machines of the web: as many as is told, and no fewer.
            self.assertEqual(min(least_many(machine)[0] for machine in all_lettered(web)), many)
            for machine in all_lettered(web):
                for word in words_of(machine, 4):
                    self.assertGreaterEqual(len(goal_by_hand(machine, all_rooms(web), word)), many)

    def test_with_strewn_letters_and_words(self):
        for seed, web in enumerate(strewn_webs()):
            many = beats_many(web)
            for at in range(3):
                turns = made_machine(len(web), 1, seed + at)
                orders = list(permutations(range(len(web[0]))))
                machine = tuple(tuple(row[letter] for letter in orders[pick % len(orders)])
                                for row, (pick,) in zip(web, turns))
                self.assertEqual(web_of(machine), web)
                self.assertGreaterEqual(least_many(machine)[0], many)
                word = made_word(len(web[0]), 200, seed + at)
                self.assertGreaterEqual(len(goal_by_hand(machine, all_rooms(web), word)), many)


class PointTwo(unittest.TestCase):
    def test_what_is_handed_in_is_the_same_behind_the_call(self):
        for web in NEEDS_OTHERS:
            before = deepcopy(web)
            coloured(web)
            self.assertEqual(web, before)

    def test_asked_again_the_same_is_told(self):
        for web in NEEDS_OTHERS + strewn_webs()[::10]:
            self.assertEqual(coloured(web), coloured(web))

    def test_all_that_is_told_is_tuples_and_whole_numbers(self):
        for web in NEEDS_OTHERS + strewn_webs()[::10]:
            self.assertTrue(is_told(coloured(web)))


if __name__ == "__main__":
    unittest.main()
