"""Point 14, and what point 2 says of its functions."""

import unittest
from copy import deepcopy
from itertools import combinations, permutations, product

from bringhome.paircheck import shows_apart, shows_ladder
from bringhome.pairs import apart, ladder
from samples import (
    EXCHANGE, HALL, ONE_ROOM, PARTS, ROUND, Stubborn, all_rooms, changed_in_one_place, goal_by_hand, made_machine,
    nested, odd_things, round_machine, small_machines,
)

STILL = ((0, 0), (1, 1), (2, 2))
OTHERS = [None, True, False, 0, 1, 2, 3, 4, 5, 6, 7, -1, 1.0, "", "a", (), (0,), (0, 1), (1, 0), (0, 2), (1, 2), (2, 3),
          (0, 3), (1, 3), (0, 4), (3, 4), (1, 1), (0, 9), ((0, 1), 1, 0), ((0, 3), 1, 1), ((0, 1), 4, 0), [], [0, 1],
          {}, (True, 2), (0, True), 10 ** 30]


def is_pair_by_hand(machine, thing):
    """Whether thing is a pair, asked of the bare kinds."""
    return (type(thing) is tuple and len(thing) == 2 and all(type(room) is int for room in thing)
            and 0 <= thing[0] < thing[1] < len(machine))


def shows_ladder_by_hand(machine, told):
    """What point 14 says of ladders, word by word."""
    if type(told) is not tuple:
        return False
    for triple in told:
        if type(triple) is not tuple or len(triple) != 3 or not is_pair_by_hand(machine, triple[0]):
            return False
        if type(triple[1]) is not int or type(triple[2]) is not int or not 0 <= triple[2] < len(machine[0]):
            return False
    if len({triple[0] for triple in told}) != len(told):
        return False
    for pair, many, letter in told:
        goal = goal_by_hand(machine, pair, (letter,))
        if len(goal) == 1 and many != 1:
            return False
        if len(goal) == 2 and not any(other[0] == goal and other[1] == many - 1 for other in told):
            return False
    return True


def shows_apart_by_hand(machine, told):
    """What point 14 says of pairs apart, word by word."""
    if type(told) is not tuple or not all(is_pair_by_hand(machine, pair) for pair in told):
        return False
    if len(set(told)) != len(told):
        return False
    return all(goal_by_hand(machine, pair, (letter,)) in told for pair in told for letter in range(len(machine[0])))


def parts_of(told):
    """All tuples of some things of a tuple, in its order."""
    return [some for many in range(len(told) + 1) for some in combinations(told, many)]


class Answered(unittest.TestCase):
    def says(self, answer, asked, *handed):
        self.assertIs(asked(*handed), answer)


class ShowsLadder(Answered):
    def test_told_ladders(self):
        machines = [ONE_ROOM, ROUND, HALL, PARTS, EXCHANGE, STILL, made_machine(26, 6, 1), round_machine(26)]
        for machine in machines + list(small_machines()):
            self.says(True, shows_ladder, machine, ladder(machine))

    def test_another_order(self):
        for machine in (HALL, PARTS, round_machine(3)):
            for told in permutations(ladder(machine)):
                self.says(True, shows_ladder, machine, told)
        self.says(True, shows_ladder, ROUND, ladder(ROUND)[::-1])
        self.says(True, shows_ladder, round_machine(26), ladder(round_machine(26))[::-1])

    def test_a_part_of_it(self):
        self.says(True, shows_ladder, ROUND, ())
        self.says(True, shows_ladder, ROUND, (((0, 3), 1, 1),))
        self.says(True, shows_ladder, ROUND, (((0, 3), 1, 1), ((2, 3), 2, 0)))
        self.says(True, shows_ladder, ROUND, (((2, 3), 2, 0), ((0, 3), 1, 1)))
        self.says(False, shows_ladder, ROUND, (((2, 3), 2, 0),))
        self.says(False, shows_ladder, ROUND, (((0, 3), 1, 1), ((1, 2), 3, 0)))
        for machine in (ROUND, HALL, PARTS):
            for told in parts_of(ladder(machine)):
                self.says(shows_ladder_by_hand(machine, told), shows_ladder, machine, told)

    def test_without_one_rung_that_another_needs(self):
        told = ladder(ROUND)
        for at in range(len(told)):
            # The pair (0, 2) is the highest: nothing stands on it.
            self.says(told[at][0] == (0, 2), shows_ladder, ROUND, told[:at] + told[at + 1:])

    def test_the_empty_tuple(self):
        for machine in (ONE_ROOM, ROUND, EXCHANGE, made_machine(26, 6, 1)):
            self.says(True, shows_ladder, machine, ())

    def test_another_letter_and_a_longer_way(self):
        machine = ((1, 0, 1), (0, 0, 1))
        for letter in (1, 2):
            self.says(True, shows_ladder, machine, (((0, 1), 1, letter),))
        self.says(False, shows_ladder, machine, (((0, 1), 1, 0),))
        # The pair (0, 1) may go by (1, 2), though letter 1 brings it home at once.
        machine = ((1, 0, 0), (2, 0, 1), (2, 2, 1))
        self.says(True, shows_ladder, machine, (((0, 1), 1, 1), ((1, 2), 1, 0)))
        self.says(True, shows_ladder, machine, (((0, 1), 2, 0), ((1, 2), 1, 0)))
        self.says(False, shows_ladder, machine, (((0, 1), 1, 0), ((1, 2), 1, 0)))
        self.says(False, shows_ladder, machine, (((0, 1), 3, 0), ((1, 2), 1, 0)))

    def test_one_room_and_many_otherwise(self):
        for many in (-1, 0, 2, 3, 10 ** 30, -10 ** 30):
            self.says(False, shows_ladder, ROUND, (((0, 3), many, 1),))
        self.says(True, shows_ladder, ROUND, (((0, 3), 1, 1),))

    def test_no_end(self):
        # Ways that lead round, with many that falls or stays.
        machine = ((1,), (2,), (0,))
        pairs = ((0, 1), (1, 2), (0, 2))
        for counts in product(range(-2, 5), repeat=3):
            self.says(False, shows_ladder, machine, tuple((pair, many, 0) for pair, many in zip(pairs, counts)))
        for many in (0, 1, 2):
            self.says(False, shows_ladder, ((0,), (1,)), (((0, 1), many, 0),))

    def test_no_pair_twice(self):
        self.says(False, shows_ladder, ROUND, (((0, 3), 1, 1), ((0, 3), 1, 1)))
        self.says(False, shows_ladder, HALL, ladder(HALL) + ladder(HALL)[:1])
        machine = ((1, 0, 0), (2, 0, 1), (2, 2, 1))
        self.says(False, shows_ladder, machine, (((0, 1), 1, 1), ((0, 1), 2, 0), ((1, 2), 1, 0)))

    def test_the_lesser_room_first(self):
        self.says(False, shows_ladder, ROUND, (((3, 0), 1, 1),))
        self.says(False, shows_ladder, ROUND, (((0, 3), 1, 1), ((3, 2), 2, 0)))
        self.says(False, shows_ladder, ROUND, (((0, 0), 1, 1),))

    def test_a_number_otherwise(self):
        for machine in (ROUND, PARTS, HALL, round_machine(7)):
            told = ladder(machine)
            for at, (pair, many, letter) in enumerate(told):
                for other in (many - 1, many + 1, 0, -many, many + 10):
                    changed = told[:at] + ((pair, other, letter),) + told[at + 1:]
                    self.says(shows_ladder_by_hand(machine, changed), shows_ladder, machine, changed)
                    if other != many:
                        self.says(False, shows_ladder, machine, changed)

    def test_a_letter_otherwise(self):
        for machine in (ROUND, PARTS, HALL, round_machine(7), made_machine(8, 3, 2)):
            told = ladder(machine)
            for at, (pair, many, letter) in enumerate(told):
                for other in range(-1, len(machine[0]) + 2):
                    changed = told[:at] + ((pair, many, other),) + told[at + 1:]
                    self.says(shows_ladder_by_hand(machine, changed), shows_ladder, machine, changed)
        self.says(False, shows_ladder, ROUND, (((0, 3), 1, 0),))
        self.says(False, shows_ladder, ROUND, (((0, 3), 1, 2),))
        self.says(False, shows_ladder, ROUND, (((0, 3), 1, -1),))

    def test_a_pair_otherwise(self):
        for machine in (ROUND, PARTS, HALL):
            told = ladder(machine)
            for at, (pair, many, letter) in enumerate(told):
                for other in product(range(-1, len(machine) + 1), repeat=2):
                    changed = told[:at] + ((other, many, letter),) + told[at + 1:]
                    self.says(shows_ladder_by_hand(machine, changed), shows_ladder, machine, changed)

    def test_otherwise_in_one_place(self):
        for machine in (ROUND, HALL, PARTS):
            for told in changed_in_one_place(ladder(machine), OTHERS):
                self.says(shows_ladder_by_hand(machine, told), shows_ladder, machine, told)

    def test_truths_for_numbers(self):
        self.says(False, shows_ladder, ROUND, (((0, 3), True, 1),))
        self.says(False, shows_ladder, ROUND, (((0, 3), 1, True),))
        self.says(False, shows_ladder, ROUND, (((False, 3), 1, 1),))
        self.says(False, shows_ladder, ROUND, (((0, 3), 1.0, 1),))
        self.says(False, shows_ladder, HALL, (((0, True), 1, 0),))

    def test_what_is_no_tuple(self):
        told = ladder(ROUND)
        for thing in (list(told), tuple(list(triple) for triple in told), told[:1] + (list(told[1]),) + told[2:],
                      tuple((list(pair), many, letter) for pair, many, letter in told), dict(enumerate(told)),
                      iter(told), set(told), frozenset(told), {pair: (many, letter) for pair, many, letter in told}):
            self.says(False, shows_ladder, ROUND, thing)

    def test_triples_of_another_length(self):
        for triple in ((), ((0, 3),), ((0, 3), 1), ((0, 3), 1, 1, 0), (0, 3, 1, 1), ((0, 3, 1), 1, 1), ((0,), 1, 1)):
            self.says(False, shows_ladder, ROUND, (triple,))
            self.says(False, shows_ladder, ROUND, ladder(ROUND) + (triple,))

    def test_anything_else(self):
        for machine in (ONE_ROOM, ROUND, HALL):
            for at, thing in enumerate(odd_things()):
                for told in (thing, (thing,), ((thing, 1, 1),), (((0, 3), thing, 1),), (((0, 3), 1, thing),),
                             (((thing, 3), 1, 1),), (((0, thing), 1, 1),), ladder(machine) + (thing,),
                             (thing,) + ladder(machine), (thing, thing), ((thing, thing, thing),)):
                    with self.subTest(at=at):
                        self.assertIs(type(shows_ladder(machine, told)), bool)
                        self.assertIs(type(shows_apart(machine, told)), bool)
        for thing in (None, 0, True, "", "a", [], {}, Stubborn(), [()], ((),), (None,), (0,), ("ab",)):
            self.says(False, shows_ladder, ROUND, thing)
            self.says(False, shows_apart, EXCHANGE, thing)

    def test_sixty_deep(self):
        for wrap in (lambda x: (x,), lambda x: (x, x), lambda x: (x, 1, 1), lambda x: ((x, 1, 0), x), lambda x: [x]):
            for core in (0, (0,), (0, 3), None):
                self.says(False, shows_ladder, ROUND, nested(60, wrap, core))
                self.says(False, shows_apart, ROUND, nested(60, wrap, core))


class ShowsApart(Answered):
    def test_told_pairs(self):
        machines = [ONE_ROOM, ROUND, HALL, PARTS, EXCHANGE, STILL, made_machine(26, 6, 1), made_machine(26, 1, 2)]
        for machine in machines + list(small_machines()):
            self.says(True, shows_apart, machine, apart(machine))

    def test_another_order(self):
        for told in permutations(apart(EXCHANGE)):
            self.says(True, shows_apart, EXCHANGE, told)
        for told in permutations(apart(PARTS)):
            self.says(True, shows_apart, PARTS, told)

    def test_a_part_of_them(self):
        for told in parts_of(apart(STILL)):
            self.says(True, shows_apart, STILL, told)
        # The pairs across a round of four lead to one another, and so do its neighbours.
        machine = ((1,), (2,), (3,), (0,))
        self.says(True, shows_apart, machine, ((0, 2), (1, 3)))
        self.says(True, shows_apart, machine, ((0, 1), (1, 2), (2, 3), (0, 3)))
        self.says(False, shows_apart, machine, ((0, 2),))
        self.says(False, shows_apart, machine, ((0, 1), (1, 2), (2, 3)))
        for machine in (EXCHANGE, PARTS, STILL, machine):
            for told in parts_of(apart(machine)):
                self.says(shows_apart_by_hand(machine, told), shows_apart, machine, told)

    def test_the_empty_tuple(self):
        for machine in (ONE_ROOM, ROUND, EXCHANGE, made_machine(26, 6, 1)):
            self.says(True, shows_apart, machine, ())

    def test_pairs_that_come_together(self):
        for machine in (ROUND, HALL, PARTS, round_machine(6)):
            pairs = tuple(combinations(all_rooms(machine), 2))
            self.says(False, shows_apart, machine, pairs)
            for triple in ladder(machine):
                self.says(False, shows_apart, machine, apart(machine) + (triple[0],))
                self.says(False, shows_apart, machine, (triple[0],))

    def test_each_letter_is_asked(self):
        self.says(False, shows_apart, ((0, 0, 0), (1, 1, 0)), ((0, 1),))
        self.says(False, shows_apart, ((0, 0, 0), (0, 1, 1)), ((0, 1),))
        self.says(True, shows_apart, ((0, 1, 0), (1, 0, 1)), ((0, 1),))

    def test_no_pair_twice(self):
        self.says(False, shows_apart, STILL, ((0, 1), (0, 1)))
        self.says(False, shows_apart, STILL, ((0, 1), (0, 2), (0, 1)))
        self.says(False, shows_apart, EXCHANGE, apart(EXCHANGE) + apart(EXCHANGE)[:1])

    def test_the_lesser_room_first(self):
        self.says(False, shows_apart, STILL, ((1, 0),))
        self.says(False, shows_apart, STILL, ((0, 1), (1, 0)))
        self.says(False, shows_apart, STILL, ((1, 1),))

    def test_what_is_no_pair(self):
        for thing in ((), (0,), (0, 1, 2), [0, 1], (0, 3), (-1, 0), (True, 2), (False, 1), (0, True), (0.0, 1), "ab",
                      ("0", "1"), (0, None), ((0, 1),), ((0, 1), 1, 0), {0, 1}, range(2), None, 0, (Stubborn(), 1)):
            self.says(False, shows_apart, STILL, (thing,))
            self.says(False, shows_apart, STILL, ((0, 1), thing))
            self.says(False, shows_apart, STILL, (thing, (0, 1)))

    def test_what_is_no_tuple(self):
        told = apart(EXCHANGE)
        for thing in (list(told), tuple(list(pair) for pair in told), set(told), frozenset(told), iter(told),
                      dict.fromkeys(told), told[0], (told,)):
            self.says(False, shows_apart, EXCHANGE, thing)

    def test_otherwise_in_one_place(self):
        for machine in (EXCHANGE, PARTS, STILL):
            for told in changed_in_one_place(apart(machine), OTHERS):
                self.says(shows_apart_by_hand(machine, told), shows_apart, machine, told)


class PointTwo(unittest.TestCase):
    def asks(self):
        machine = made_machine(6, 3, 4)
        return [
            (shows_ladder, (machine, ladder(machine))), (shows_ladder, (machine, list(ladder(machine)))),
            (shows_apart, (EXCHANGE, apart(EXCHANGE))), (shows_apart, (EXCHANGE, [[0, 1]])),
            (shows_ladder, (ROUND, {"a": [1]})), (shows_apart, (ROUND, ([0, 1],))),
        ]

    def test_what_is_handed_in_is_the_same_behind_the_call(self):
        for asked, handed in self.asks():
            before = deepcopy(handed)
            asked(*handed)
            self.assertEqual(handed, before)

    def test_asked_again_the_same_is_told(self):
        for asked, handed in self.asks():
            self.assertIs(asked(*handed), asked(*handed))

    def test_nothing_is_taken_out_of_what_is_walked_once(self):
        for wrap in (lambda x: x, lambda x: (x,), lambda x: ((x, 1, 1),), lambda x: ((0, x),)):
            inner = iter([0, 3])
            thing = wrap(inner)
            shows_ladder(ROUND, thing), shows_apart(ROUND, thing)
            self.assertEqual(list(inner), [0, 3])


if __name__ == "__main__":
    unittest.main()
