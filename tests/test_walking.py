"""Point 5, and what point 2 says of its functions."""

import unittest
from copy import deepcopy

from bringhome.machines import is_set
from bringhome.walking import brought, led, walked
from samples import HALL, ONE_ROOM, ROUND, is_told, made_machine, made_word, sets_of, small_machines, words_of

# From Cerny's row: nine letters, no fewer, bring its four rooms together.
HOME_WORD = (1, 0, 0, 0, 1, 0, 0, 0, 1)


def led_by_hand(machine, room, word):
    """Where a word leads, from its first letter on."""
    if not word:
        return room
    return led_by_hand(machine, machine[room][word[0]], word[1:])


class Led(unittest.TestCase):
    def test_no_letter(self):
        for machine in (ONE_ROOM, ROUND, HALL, made_machine(26, 6, 1)):
            for room in range(len(machine)):
                self.assertEqual(led(machine, room, ()), room)

    def test_one_letter(self):
        for machine in (ONE_ROOM, ROUND, HALL, made_machine(26, 6, 1)):
            for room, row in enumerate(machine):
                for letter, goal in enumerate(row):
                    self.assertEqual(led(machine, room, (letter,)), goal)

    def test_written_out(self):
        self.assertEqual(led(HALL, 0, (2, 1)), 0)
        self.assertEqual(led(HALL, 0, (0, 1)), 2)
        self.assertEqual(led(HALL, 0, (1, 0)), 1)
        self.assertEqual(led(HALL, 1, (1, 2, 0, 1)), 2)
        self.assertEqual(led(ROUND, 3, (0, 0, 1)), 1)

    def test_first_letter_first(self):
        self.assertNotEqual(led(HALL, 0, (0, 1)), led(HALL, 0, (1, 0)))
        for machine in (ROUND, HALL):
            for word in words_of(machine, 4):
                for room in range(len(machine)):
                    self.assertEqual(led(machine, room, word), led_by_hand(machine, room, word))

    def test_thousands_of_letters(self):
        self.assertEqual(led(ROUND, 1, (0,) * 4000), 1)
        self.assertEqual(led(ROUND, 1, (0,) * 3999), 0)
        self.assertEqual(led(ONE_ROOM, 0, (0,) * 4000), 0)
        machine, word = made_machine(26, 6, 3), made_word(6, 4000, 8)
        here = 5
        for letter in word:
            here = machine[here][letter]
        self.assertEqual(led(machine, 5, word), here)

    def test_two_words_one_behind_the_other(self):
        for machine in (ROUND, HALL, made_machine(8, 2, 1)):
            words = words_of(machine, 2) + [made_word(len(machine[0]), 50, seed) for seed in range(3)]
            for one in words:
                for other in words:
                    for room in range(len(machine)):
                        self.assertEqual(led(machine, room, one + other), led(machine, led(machine, room, one), other))

    def test_it_is_a_whole_number(self):
        self.assertIs(type(led(HALL, 1, (0, 1, 2))), int)


class Brought(unittest.TestCase):
    def test_no_letter(self):
        for machine in (ONE_ROOM, ROUND, HALL):
            for rooms in sets_of(machine):
                self.assertEqual(brought(machine, rooms, ()), rooms)

    def test_written_out(self):
        self.assertEqual(brought(ROUND, (0, 1, 2, 3), (0,)), (0, 1, 2, 3))
        self.assertEqual(brought(ROUND, (0, 1, 2, 3), (1,)), (0, 1, 2))
        self.assertEqual(brought(ROUND, (2, 3), (0,)), (0, 3))
        self.assertEqual(brought(HALL, (0, 1, 2), (0,)), (0, 1))
        self.assertEqual(brought(HALL, (0, 1), (0,)), (1,))
        self.assertEqual(brought(HALL, (0, 1, 2), (0, 0)), (1,))

    def test_rooms_come_together(self):
        everywhere = (0, 1, 2, 3)
        self.assertEqual(brought(ROUND, everywhere, HOME_WORD), (0,))
        for many in range(len(HOME_WORD)):
            self.assertGreater(len(brought(ROUND, everywhere, HOME_WORD[:many])), 1)

    def test_it_is_the_set_of_where_the_word_leads(self):
        for machine in [ROUND, HALL] + list(small_machines()):
            for word in words_of(machine, 3):
                for rooms in sets_of(machine):
                    goals = {led_by_hand(machine, room, word) for room in rooms}
                    self.assertEqual(brought(machine, rooms, word), tuple(sorted(goals)))

    def test_two_words_one_behind_the_other(self):
        for seed in range(5):
            machine = made_machine(10, 3, seed)
            one, other = made_word(3, 4, seed), made_word(3, 7, seed + 1)
            for rooms in sets_of(machine)[::17]:
                self.assertEqual(
                    brought(machine, rooms, one + other), brought(machine, brought(machine, rooms, one), other))

    def test_thousands_of_letters(self):
        self.assertEqual(brought(ROUND, (1, 3), (0,) * 4000), (1, 3))
        self.assertEqual(brought(ROUND, (1, 3), (0,) * 3999), (0, 2))
        machine, word = made_machine(26, 6, 2), made_word(6, 4000, 3)
        goals = {led(machine, room, word) for room in range(26)}
        self.assertEqual(brought(machine, tuple(range(26)), word), tuple(sorted(goals)))


class Walked(unittest.TestCase):
    def test_no_letter(self):
        for machine in (ONE_ROOM, ROUND, HALL):
            for rooms in sets_of(machine):
                self.assertEqual(walked(machine, rooms, ()), (rooms,))

    def test_written_out(self):
        self.assertEqual(walked(HALL, (0, 1, 2), (0, 0)), ((0, 1, 2), (0, 1), (1,)))
        self.assertEqual(walked(ROUND, (2, 3), (0, 1, 1)), ((2, 3), (0, 3), (0,), (0,)))
        self.assertEqual(walked(ONE_ROOM, (0,), (0, 0)), ((0,), (0,), (0,)))
        self.assertEqual(walked(ROUND, (0, 1, 2, 3), HOME_WORD), (
            (0, 1, 2, 3), (0, 1, 2), (1, 2, 3), (0, 2, 3), (0, 1, 3), (0, 1), (1, 2), (2, 3), (0, 3), (0,),
        ))

    def test_a_set_for_each_beginning(self):
        for machine in [ROUND, HALL] + list(small_machines()):
            for word in words_of(machine, 3):
                for rooms in sets_of(machine):
                    told = walked(machine, rooms, word)
                    self.assertEqual(len(told), len(word) + 1)
                    for many, told_set in enumerate(told):
                        self.assertEqual(told_set, brought(machine, rooms, word[:many]))

    def test_thousands_of_letters(self):
        machine, word = made_machine(26, 6, 2), made_word(6, 4000, 3)
        told = walked(machine, tuple(range(26)), word)
        self.assertEqual(len(told), 4001)
        self.assertEqual(told[0], tuple(range(26)))
        for letter, before, behind in zip(word, told, told[1:]):
            self.assertEqual(behind, tuple(sorted({machine[room][letter] for room in before})))


class PointTwo(unittest.TestCase):
    def asks(self):
        machine, word, rooms = made_machine(9, 3, 4), made_word(3, 40, 1), (1, 4, 5, 8)
        return [
            (led, (machine, 4, word)), (led, (machine, 4, ())),
            (brought, (machine, rooms, word)), (brought, (machine, rooms, ())),
            (walked, (machine, rooms, word)), (walked, (machine, rooms, ())),
        ]

    def test_what_is_handed_in_is_the_same_behind_the_call(self):
        for asked, handed in self.asks():
            before = deepcopy(handed)
            asked(*handed)
            self.assertEqual(handed, before)

    def test_asked_again_the_same_is_told(self):
        for asked, handed in self.asks():
            self.assertEqual(asked(*handed), asked(*handed))

    def test_all_that_is_told_is_tuples_and_whole_numbers(self):
        for asked, handed in self.asks():
            self.assertTrue(is_told(asked(*handed)))

    def test_told_sets_are_sets(self):
        for seed in range(10):
            machine, word = made_machine(26, 2, seed), made_word(2, 60, seed)
            for told in walked(machine, tuple(range(26)), word):
                self.assertIs(is_set(machine, told), True)
            self.assertIs(is_set(machine, brought(machine, (3, 9, 20), word)), True)


if __name__ == "__main__":
    unittest.main()
