"""Point 24, and what point 2 says of it."""

import unittest
from copy import deepcopy
from itertools import permutations, product

from bringhome.beats import beats, shows_beats
from bringhome.colourcheck import shows_coloured
from bringhome.colours import coloured
from bringhome.machines import is_machine, relettered
from samples import (
    ONE_ROOM, Stubborn, all_rooms, changed_in_one_place, goal_by_hand, made_word, nested, odd_things, small_webs,
    strewn_webs, words_of,
)

# A word brings it to one room, but only with other letters than those that rise.
THREE = ((0, 1), (1, 2), (0, 1))
TURN = ((1, 1), (2, 2), (0, 0))
# Two closed parts: room 1, and rooms 2 and 3 with a beat of two; room 0 lies outside.
SPLIT = ((0, 2), (1, 1), (3, 3), (2, 2))
OTHERS = [None, True, False, 0, 1, 2, 3, -1, 1.0, "", "a", (), (0,), (1,), (0, 1), (1, 0), (1, 1), (2, 1), (0, 1, 2),
          [], [0], {}, 10 ** 30, (True,), ((0,),), ((1,), 1, (0,)), THREE, TURN, SPLIT]


def shows_by_hand(web, told):
    """What point 24 says, word by word."""
    if type(told) is not tuple or len(told) != 3:
        return False
    machine, word, shown = told
    if not is_machine(machine) or tuple(tuple(sorted(row)) for row in machine) != web or type(word) is not tuple:
        return False
    if not all(type(letter) is int and 0 <= letter < len(web[0]) for letter in word) or not shows_beats(web, shown):
        return False
    return len(goal_by_hand(machine, all_rooms(web), word)) == sum(beat for part, beat, phases in shown)


class ShowsColoured(unittest.TestCase):
    def says(self, answer, web, told):
        self.assertIs(shows_coloured(web, told), answer)

    def test_what_coloured_tells(self):
        for web in strewn_webs() + list(small_webs()):
            self.says(True, web, coloured(web))

    def test_written_out(self):
        self.says(True, ONE_ROOM, (ONE_ROOM, (), (((0,), 1, (0,)),)))
        self.says(True, TURN, (TURN, (), (((0, 1, 2), 3, (0, 1, 2)),)))
        self.says(True, THREE, (((0, 1), (2, 1), (0, 1)), (1,), (((0, 1, 2), 1, (0, 0, 0)),)))
        self.says(False, THREE, (THREE, (1,), (((0, 1, 2), 1, (0, 0, 0)),)))

    def test_letters_called_otherwise(self):
        for web in strewn_webs()[::3] + [THREE, TURN, SPLIT]:
            machine, word, shown = coloured(web)
            for letters in permutations(range(len(web[0]))):
                called = tuple(letters.index(letter) for letter in word)
                self.says(True, web, (relettered(machine, letters), called, shown))

    def test_longer_words(self):
        for web in strewn_webs()[::3] + [THREE, TURN, SPLIT]:
            machine, word, shown = coloured(web)
            for tail in ((0,), (len(web[0]) - 1,) * 3, made_word(len(web[0]), 4000, 1)):
                # No word leaves fewer, and what stands behind or ahead leaves no more.
                self.says(True, web, (machine, word + tail, shown))
                self.says(True, web, (machine, tail + word, shown))

    def test_a_word_that_leaves_more(self):
        for web in strewn_webs() + [THREE, SPLIT]:
            machine, word, shown = coloured(web)
            many = sum(beat for part, beat, phases in shown)
            for end in range(len(word)):
                right = len(goal_by_hand(machine, all_rooms(web), word[:end])) == many
                self.says(right, web, (machine, word[:end], shown))
        self.says(False, THREE, (((0, 1), (2, 1), (0, 1)), (), (((0, 1, 2), 1, (0, 0, 0)),)))
        self.says(False, THREE, (((0, 1), (2, 1), (0, 1)), (0,), (((0, 1, 2), 1, (0, 0, 0)),)))

    def test_all_short_words_and_all_letters(self):
        for web in (THREE, TURN, SPLIT, ((0, 1), (0, 1)), ((0, 1), (1, 1))):
            shown = beats(web)
            for machine in product(*(permutations(row) for row in web)):
                for word in words_of(machine, 4):
                    told = (machine, word, shown)
                    self.says(shows_by_hand(web, told), web, told)

    def test_a_machine_with_another_web(self):
        shown = beats(THREE)
        for machine in (((0, 1), (2, 1), (0, 0)), ((0, 0), (0, 0), (0, 0)), ((1, 0), (0, 1), (0, 1)), TURN,
                        ((0, 1), (0, 1)), ((0, 1, 1), (2, 1, 1), (0, 1, 1)), ((0,), (1,), (0,)),
                        ((0, 1), (2, 1), (0, 1), (0, 1)), ((0, 1), (0, 1), (1, 2))):
            for word in words_of(machine, 3):
                self.says(False, THREE, (machine, word, shown))

    def test_each_way_counts_as_often_as_it_is_there(self):
        web = ((0, 0, 1), (0, 1, 1))
        shown = (((0, 1), 1, (0, 0)),)
        self.says(True, web, (((0, 0, 1), (0, 1, 1)), (0,), shown))
        self.says(False, web, (((0, 1, 1), (0, 1, 1)), (0,), shown))
        self.says(False, web, (((0, 0, 1), (0, 0, 1)), (0,), shown))

    def test_beats_that_are_fewer_than_are_left(self):
        machine, word, shown = coloured(SPLIT)
        self.says(True, SPLIT, (machine, word, shown))
        for other in ((), shown[:1], shown[1:], (shown[0], ((2, 3), 1, (0, 0))), shown + shown[:1],
                      (shown[0], ((2, 3), 2, (0, 0)))):
            self.says(False, SPLIT, (machine, word, other))
        # Beats that show_beats takes, but that are not the greatest.
        self.says(False, TURN, (TURN, (), (((0, 1, 2), 1, (0, 0, 0)),)))
        self.says(False, TURN, (TURN, (0, 1), ()))

    def test_other_beats_that_are_as_many(self):
        machine, word, shown = coloured(SPLIT)
        self.says(True, SPLIT, (machine, word, shown[::-1]))
        self.says(True, SPLIT, (machine, word, (shown[0], ((2, 3), 2, (1, 0)))))
        # Room 0 with the part that its ways lead to: a set that no way leaves, but no closed part.
        web = ((1,), (0,), (0,))
        self.says(True, web, (web, (0,), (((0, 1, 2), 2, (0, 1, 1)),)))
        self.says(False, web, (web, (), (((0, 1, 2), 2, (0, 1, 1)),)))

    def test_otherwise_in_one_place(self):
        for web in (ONE_ROOM, THREE, TURN, SPLIT):
            for told in changed_in_one_place(coloured(web), OTHERS):
                self.says(shows_by_hand(web, told), web, told)

    def test_truths_and_lists(self):
        machine, word, shown = coloured(SPLIT)
        for told in ([machine, word, shown], (list(machine), word, shown), (machine, list(word), shown),
                     (machine, word, list(shown)), (tuple(list(row) for row in machine), word, shown),
                     (machine, word + (True,), shown), (machine, word + (2,), shown), (machine, word + (-1,), shown),
                     (machine, "a", shown), (machine, word), (machine, word, shown, ()), (word, machine, shown), (),
                     ((tuple(bool(goal) if goal < 2 else goal for goal in machine[0]),) + machine[1:], word, shown),
                     (machine, word, None), (None, word, shown), (machine, None, shown), iter((machine, word, shown))):
            self.says(False, SPLIT, told)

    def test_anything_else(self):
        for web in (ONE_ROOM, THREE, SPLIT):
            machine, word, shown = coloured(web)
            for at, thing in enumerate(odd_things()):
                for told in (thing, (thing,), (thing, thing, thing), (thing, word, shown), (machine, thing, shown),
                             (machine, word, thing), (machine, word, (thing,)), (machine, (thing,), shown),
                             ((thing,) + machine[1:], word, shown), (machine, word, shown + (thing,)),
                             (((thing,) + machine[0][1:],) + machine[1:], word, shown), (machine, word, shown, thing)):
                    with self.subTest(at=at):
                        self.says(shows_by_hand(web, told), web, told)
        for thing in (Stubborn(), (Stubborn(), (), ()), (ONE_ROOM, Stubborn(), ()), (ONE_ROOM, (), Stubborn()),
                      (((Stubborn(),),), (), ())):
            self.says(False, ONE_ROOM, thing)

    def test_sixty_deep(self):
        for wrap in (lambda x: (x,), lambda x: (x, (), ()), lambda x: (x, x, x), lambda x: (ONE_ROOM, (), x),
                     lambda x: (ONE_ROOM, x, ()), lambda x: [x]):
            for core in (0, ONE_ROOM, None):
                self.says(False, ONE_ROOM, nested(60, wrap, core))


class PointTwo(unittest.TestCase):
    def asks(self):
        return [(SPLIT, coloured(SPLIT)), (THREE, coloured(THREE)), (THREE, [[0], {1: [2]}]),
                (THREE, (THREE, [0], [1]))]

    def test_what_is_handed_in_is_the_same_behind_the_call(self):
        for handed in self.asks():
            before = deepcopy(handed)
            shows_coloured(*handed)
            self.assertEqual(handed, before)

    def test_asked_again_the_same_is_told(self):
        for handed in self.asks():
            self.assertIs(shows_coloured(*handed), shows_coloured(*handed))

    def test_nothing_is_taken_out_of_what_is_walked_once(self):
        for wrap in (lambda x: x, lambda x: (x, (), ()), lambda x: (ONE_ROOM, x, ()), lambda x: (ONE_ROOM, (), x)):
            inner = iter([0])
            self.assertIs(shows_coloured(ONE_ROOM, wrap(inner)), False)
            self.assertEqual(list(inner), [0])


if __name__ == "__main__":
    unittest.main()
