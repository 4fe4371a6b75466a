"""Points 9 and 10, (a) and (b) of point 3, and what point 2 says of their functions."""

import unittest
from copy import deepcopy

from bringhome.levels import least_word, levels, word_into
from bringhome.machines import is_word, renamed
from bringhome.walking import brought
from samples import (
    EXCHANGE, HALL, ONE_ROOM, PARTS, ROUND, all_rooms, goal_by_hand, is_told, made_machine, round_machine, sets_of,
    small_machines, words_of,
)

# Each letter leads each room of it to itself.
STILL = ((0, 0), (1, 1), (2, 2))


def levels_by_hand(machine, rooms):
    """The levels of a set, by the words of the document."""
    told = [[rooms]]
    while told[-1]:
        ahead = [some for level in told for some in level]
        behind = [goal_by_hand(machine, some, (letter,)) for some in told[-1] for letter in range(len(machine[0]))]
        told.append(sorted({some for some in behind if some not in ahead}))
    return tuple(tuple(level) for level in told[:-1])


def first_word_by_hand(machine, rooms, is_due, longest):
    """The first of the shortest words to a set that is due, tried one by one; None where none of these does."""
    for word in words_of(machine, longest):
        if is_due(goal_by_hand(machine, rooms, word)):
            return word
    return None


class Levels(unittest.TestCase):
    def test_written_out(self):
        self.assertEqual(levels(ONE_ROOM, (0,)), (((0,),),))
        self.assertEqual(levels(HALL, (0, 1, 2)), (((0, 1, 2),), ((0, 1), (0, 2)), ((0,), (1,)), ((2,),)))
        self.assertEqual(levels(HALL, (2,)), (((2,),), ((0,),), ((1,),)))
        self.assertEqual(levels(ROUND, (2, 3)), (
            ((2, 3),), ((0, 2), (0, 3)), ((0,), (0, 1), (1, 3)), ((1,), (1, 2)), ((2,),), ((3,),)))

    def test_of_one_room(self):
        self.assertEqual(levels(ROUND, (0,)), (((0,),), ((1,),), ((2,),), ((3,),)))
        self.assertEqual(levels(STILL, (1,)), (((1,),),))

    def test_of_all_rooms(self):
        self.assertEqual(levels(round_machine(3), (0, 1, 2)), (
            ((0, 1, 2),), ((0, 1),), ((1, 2),), ((0, 2),), ((0,),), ((1,),), ((2,),)))

    def test_letters_that_only_exchange_rooms(self):
        self.assertEqual(levels(EXCHANGE, (0, 1, 2, 3)), (((0, 1, 2, 3),),))
        self.assertEqual(levels(STILL, (0, 2)), (((0, 2),),))
        told = levels(EXCHANGE, (0, 2))
        self.assertEqual(told, (((0, 2),), ((1, 2), (1, 3)), ((0, 3), (2, 3)), ((0, 1),)))

    def test_two_parts_that_no_letter_leaves(self):
        told = levels(PARTS, (0, 3))
        self.assertTrue(all(len(some) == 2 and some[0] < 3 <= some[1] for level in told for some in level))
        self.assertEqual(told, (((0, 3),), ((1, 4),), ((0, 4), (2, 4))))

    def test_each_level_is_by_the_words_of_the_document(self):
        machines = [ROUND, HALL, EXCHANGE, PARTS, STILL, made_machine(6, 3, 1)] + list(small_machines())
        for machine in machines:
            for rooms in sets_of(machine):
                self.assertEqual(levels(machine, rooms), levels_by_hand(machine, rooms))

    def test_nine_rooms_and_four_letters(self):
        for seed in range(5):
            machine = made_machine(9, 4, seed)
            self.assertEqual(levels(machine, all_rooms(machine)), levels_by_hand(machine, all_rooms(machine)))

    def test_each_set_stands_once_at_the_least_count_of_letters(self):
        for machine in (ROUND, HALL, PARTS, EXCHANGE):
            for rooms in sets_of(machine):
                told = levels(machine, rooms)
                places = {some: at for at, level in enumerate(told) for some in level}
                self.assertEqual(len(places), sum(len(level) for level in told))
                least = {}
                for word in words_of(machine, 7):
                    least.setdefault(goal_by_hand(machine, rooms, word), len(word))
                self.assertEqual({some: at for some, at in places.items() if at <= 7}, least)

    def test_no_level_is_empty_and_each_rises(self):
        for seed in range(10):
            machine = made_machine(7, 3, seed)
            for rooms in sets_of(machine)[::9]:
                for level in levels(machine, rooms):
                    self.assertTrue(level)
                    self.assertEqual(list(level), sorted(set(level)))

    def test_all_sets_of_a_machine_of_nine_rooms(self):
        told = levels(round_machine(9), tuple(range(9)))
        self.assertEqual(sum(len(level) for level in told), 511)
        self.assertEqual(told[64], ((0,),))
        self.assertEqual(len(told), 64 + 9)


class LeastWord(unittest.TestCase):
    def test_written_out(self):
        self.assertEqual(least_word(HALL, (0, 1, 2), 1), ("word", (0, 0), (((0, 1, 2),), ((0, 1), (0, 2)))))
        self.assertEqual(least_word(HALL, (0, 1, 2), 2), ("word", (0,), (((0, 1, 2),),)))
        self.assertEqual(least_word(round_machine(3), (0, 1, 2), 1), (
            "word", (1, 0, 0, 1), (((0, 1, 2),), ((0, 1),), ((1, 2),), ((0, 2),))))

    def test_the_word_of_no_letter(self):
        for machine in (ONE_ROOM, ROUND, EXCHANGE, PARTS, STILL):
            for rooms in sets_of(machine):
                for many in (len(rooms), len(rooms) + 1, 26, 10 ** 20):
                    self.assertEqual(least_word(machine, rooms, many), ("word", (), ()))

    def test_none_does(self):
        self.assertEqual(least_word(EXCHANGE, (0, 1, 2, 3), 3), ("none", (((0, 1, 2, 3),),)))
        self.assertEqual(least_word(STILL, (0, 2), 1), ("none", (((0, 2),),)))
        for many in (1, 2, 3):
            self.assertEqual(least_word(EXCHANGE, all_rooms(EXCHANGE), many),
                             ("none", levels(EXCHANGE, all_rooms(EXCHANGE))))
        self.assertEqual(least_word(PARTS, all_rooms(PARTS), 1), ("none", levels(PARTS, all_rooms(PARTS))))
        self.assertEqual(least_word(PARTS, (0, 3), 1), ("none", levels(PARTS, (0, 3))))
        self.assertEqual(least_word(PARTS, all_rooms(PARTS), 2)[0], "word")

    def test_the_first_of_several_as_tuples_rise(self):
        # Letter 0 exchanges the rooms; each of the others brings them together.
        self.assertEqual(least_word(((1, 0, 1), (0, 0, 1)), (0, 1), 1), ("word", (1,), (((0, 1),),)))
        self.assertEqual(least_word(((1, 1, 0), (0, 1, 0)), (0, 1), 1), ("word", (1,), (((0, 1),),)))

    def test_the_first_word_not_the_first_set(self):
        # Letter 0 leads rooms to (2, 3), letter 1 to (0, 1), which is lesser; the next letter brings both to one.
        machine = ((4, 4), (4, 4), (5, 5), (5, 5), (2, 0), (3, 1))
        self.assertEqual(levels(machine, (4, 5))[1], ((0, 1), (2, 3)))
        self.assertEqual(least_word(machine, (4, 5), 1)[1], (0, 0))

    def test_by_trying_all_words(self):
        for machine in [HALL, PARTS, EXCHANGE, STILL] + list(small_machines()):
            for rooms in sets_of(machine):
                for many in range(1, len(rooms) + 1):
                    told = least_word(machine, rooms, many)
                    word = first_word_by_hand(machine, rooms, lambda some: len(some) <= many, 5)
                    if word is None:
                        self.assertTrue(told[0] == "none" or len(told[1]) > 5)
                    else:
                        self.assertEqual(told, ("word", word, levels_by_hand(machine, rooms)[:len(word)]))

    def test_strewn_machines_by_trying_all_words(self):
        for seed in range(40):
            machine = made_machine(5 + seed % 5, 2 + seed % 3, seed)
            rooms = all_rooms(machine)
            for many in range(1, len(machine)):
                told = least_word(machine, rooms, many)
                word = first_word_by_hand(machine, rooms, lambda some: len(some) <= many, 4)
                if word is not None:
                    self.assertEqual(told, ("word", word, levels_by_hand(machine, rooms)[:len(word)]))
                else:
                    self.assertTrue(told[0] == "none" or len(told[1]) > 4)

    def test_the_long_word_of_nine_rooms(self):
        for rooms in range(2, 10):
            machine = round_machine(rooms)
            kind, word, shown = least_word(machine, all_rooms(machine), 1)
            self.assertEqual(kind, "word")
            self.assertEqual(len(word), (rooms - 1) ** 2)
            self.assertEqual(word, ((1,) + (0,) * (rooms - 1)) * (rooms - 2) + (1,))
            self.assertEqual(shown, levels(machine, all_rooms(machine))[:len(word)])
            self.assertEqual(brought(machine, all_rooms(machine), word), (0,))

    def test_a_told_word_does_what_is_told_and_none_that_is_shorter(self):
        for seed in range(60):
            machine = made_machine(3 + seed % 7, 1 + seed % 4, seed)
            rooms = all_rooms(machine)
            for many in range(1, len(machine) + 1):
                told = least_word(machine, rooms, many)
                if told[0] == "word":
                    self.assertTrue(is_word(machine, told[1]))
                    self.assertLessEqual(len(goal_by_hand(machine, rooms, told[1])), many)
                    self.assertEqual(told[2], levels_by_hand(machine, rooms)[:len(told[1])])
                else:
                    self.assertEqual(told, ("none", levels_by_hand(machine, rooms)))
                self.assertFalse(any(len(some) <= many for level in told[-1] for some in level))

    def test_called_otherwise_it_is_as_long(self):
        order = (4, 2, 0, 5, 1, 3)
        for seed in range(20):
            machine = made_machine(6, 2, seed)
            other = renamed(machine, order)
            for many in range(1, 6):
                one_told = least_word(machine, all_rooms(machine), many)
                other_told = least_word(other, all_rooms(other), many)
                self.assertEqual(one_told[:-1], other_told[:-1])
                self.assertEqual(len(one_told[-1]), len(other_told[-1]))


class WordInto(unittest.TestCase):
    def test_written_out(self):
        self.assertEqual(word_into(HALL, (0, 1, 2), (0, 1)), ("word", (0,), (((0, 1, 2),),)))
        self.assertEqual(word_into(HALL, (0, 1, 2), (2,)), (
            "word", (0, 0, 1), (((0, 1, 2),), ((0, 1), (0, 2)), ((0,), (1,)))))
        self.assertEqual(word_into(ROUND, (0,), (3,)), ("word", (0, 0, 0), (((0,),), ((1,),), ((2,),))))

    def test_goals_of_one_room(self):
        machine = round_machine(5)
        for room in range(5):
            kind, word, shown = word_into(machine, all_rooms(machine), (room,))
            self.assertEqual(kind, "word")
            self.assertEqual(goal_by_hand(machine, all_rooms(machine), word), (room,))
            self.assertEqual(len(word), 16 + room)
            self.assertEqual(shown, levels_by_hand(machine, all_rooms(machine))[:16 + room])

    def test_the_set_itself_and_more(self):
        for machine in (ONE_ROOM, ROUND, EXCHANGE, PARTS, STILL):
            for rooms in sets_of(machine):
                self.assertEqual(word_into(machine, rooms, rooms), ("word", (), ()))
                self.assertEqual(word_into(machine, rooms, all_rooms(machine)), ("word", (), ()))

    def test_not_all_of_goal_need_be_come_to(self):
        self.assertEqual(word_into(STILL, (1,), (0, 1, 2)), ("word", (), ()))
        self.assertEqual(word_into(ROUND, (0,), (2, 3)), ("word", (0, 0), (((0,),), ((1,),))))

    def test_all_rooms_must_be_in_goal(self):
        # Letter 0 brings one of both rooms into the goal, letter 1 both.
        self.assertEqual(word_into(((2, 2), (0, 2), (2, 2)), (0, 1), (2,)), ("word", (1,), (((0, 1),),)))

    def test_none_does(self):
        self.assertEqual(word_into(STILL, (0,), (1, 2)), ("none", (((0,),),)))
        self.assertEqual(word_into(PARTS, (0, 3), (0, 1, 2)), ("none", levels(PARTS, (0, 3))))
        self.assertEqual(word_into(PARTS, (4,), (3,)), ("none", (((4,),),)))
        self.assertEqual(word_into(EXCHANGE, (0, 1, 2, 3), (0, 1, 2)), ("none", (((0, 1, 2, 3),),)))

    def test_the_first_of_several_as_tuples_rise(self):
        machine = ((4, 4), (4, 4), (5, 5), (5, 5), (2, 0), (3, 1))
        self.assertEqual(word_into(machine, (4, 5), (4, 5))[1], ())
        self.assertEqual(word_into(machine, (4,), (0, 2))[1], (0,))
        self.assertEqual(word_into(((1, 2, 1), (1, 1, 1), (2, 2, 2)), (0,), (1, 2))[1], (0,))
        self.assertEqual(word_into(((1, 2, 1), (1, 1, 1), (2, 2, 2)), (0,), (2,))[1], (1,))

    def test_by_trying_all_words(self):
        for machine in [HALL, PARTS, EXCHANGE, STILL] + list(small_machines()):
            for rooms in sets_of(machine)[::2] + [all_rooms(machine)]:
                for goal in sets_of(machine):
                    told = word_into(machine, rooms, goal)
                    word = first_word_by_hand(machine, rooms, lambda some: set(some) <= set(goal), 4)
                    if word is None:
                        self.assertTrue(told[0] == "none" or len(told[1]) > 4)
                    else:
                        self.assertEqual(told, ("word", word, levels_by_hand(machine, rooms)[:len(word)]))

    def test_a_told_word_does_what_is_told_and_none_that_is_shorter(self):
        for seed in range(30):
            machine = made_machine(4 + seed % 6, 1 + seed % 4, seed)
            rooms = all_rooms(machine)
            for goal in sets_of(machine)[::11]:
                told = word_into(machine, rooms, goal)
                if told[0] == "word":
                    self.assertLessEqual(set(goal_by_hand(machine, rooms, told[1])), set(goal))
                    self.assertEqual(told[2], levels_by_hand(machine, rooms)[:len(told[1])])
                else:
                    self.assertEqual(told, ("none", levels_by_hand(machine, rooms)))
                self.assertFalse(any(set(some) <= set(goal) for level in told[-1] for some in level))


class PointTwo(unittest.TestCase):
    def asks(self):
        machine, rooms = made_machine(8, 3, 4), (1, 4, 5, 7)
        return [
            (levels, (machine, rooms)), (levels, (PARTS, (0, 1, 2, 3, 4))),
            (least_word, (machine, rooms, 1)), (least_word, (machine, rooms, 4)), (least_word, (EXCHANGE, (0, 1), 1)),
            (word_into, (machine, rooms, (0, 3))), (word_into, (machine, rooms, rooms)),
            (word_into, (STILL, (0,), (1,))),
        ]

    def test_what_is_handed_in_is_the_same_behind_the_call(self):
        for asked, handed in self.asks():
            before = deepcopy(handed)
            asked(*handed)
            self.assertEqual(handed, before)

    def test_asked_again_the_same_is_told(self):
        for asked, handed in self.asks():
            self.assertEqual(asked(*handed), asked(*handed))

    def test_all_that_is_told_is_tuples_texts_and_whole_numbers(self):
        for asked, handed in self.asks():
            self.assertTrue(is_told(asked(*handed)))


if __name__ == "__main__":
    unittest.main()
