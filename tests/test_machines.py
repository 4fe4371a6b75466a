"""Points 4 and 6, and what point 2 says of their functions."""

import unittest
from copy import deepcopy
from itertools import permutations, product

from bringhome.machines import is_machine, is_set, is_word, relettered, renamed
from bringhome.walking import led
from samples import (
    HALL, ONE_ROOM, ROUND, is_told, made_machine, made_word, nested, odd_things, sets_of, small_machines, words_of,
)


class Asked(unittest.TestCase):
    def says(self, asked, things, answer):
        # Told by its place: a deep thing that bears another twice is too long to be written.
        for at, thing in enumerate(things):
            with self.subTest(at=at):
                self.assertIs(asked(thing), answer)


class IsMachine(Asked):
    def test_machines(self):
        self.says(is_machine, [
            ONE_ROOM, ROUND, HALL, ((0, 0, 0),), ((0,), (0,)), ((1,), (0,)), ((1,), (1,)), ((0, 1), (0, 1)),
        ], True)

    def test_all_small_machines(self):
        self.says(is_machine, small_machines(), True)

    def test_bounds_of_other_points_do_not_bind_it(self):
        self.says(is_machine, [
            made_machine(26, 6, 1), made_machine(27, 6, 2), made_machine(26, 7, 3), made_machine(300, 40, 4),
            ((0,) * 1000,), ((999,),) * 1000,
        ], True)

    def test_no_room_and_no_letter(self):
        self.says(is_machine, [(), ((),), ((), ()), ((), (0,)), ((0,), ())], False)

    def test_rows_of_unlike_length(self):
        self.says(is_machine, [
            ((0,), (0, 1)), ((0, 1), (0,)), ((0, 1), (1, 0), (0,)), ((0,), (0,), (0, 0)), ((0, 1), (0, 1), ()),
        ], False)

    def test_lists_are_no_tuples(self):
        self.says(is_machine, [
            [(0,)], [[0]], ([0],), [(1, 0), (0, 1)], ([1, 0], (0, 1)), ((1, 0), [0, 1]), [[1, 0], [0, 1]],
            (((0,),),), ((([0],),),), (([0], 0), (0, 0)), [], ([],),
        ], False)

    def test_rooms_that_are_not_there(self):
        self.says(is_machine, [
            ((1,),), ((-1,),), ((0, 2), (0, 1)), ((0, 1), (0, 2)), ((0, -1), (0, 1)), ((0, 1), (-2, 1)),
            ((0,), (10 ** 50,)), ((-10 ** 50,), (0,)), ((0, 0, 3), (0, 0, 0), (0, 0, 0)),
        ], False)

    def test_a_truth_is_no_room(self):
        self.says(is_machine, [
            ((False,),), ((True,), (0,)), ((0,), (False,)), ((1, 0), (True, 0)), True, False, (True,), (False,),
        ], False)

    def test_other_kinds_in_the_place_of_a_room_or_a_row(self):
        for other in (None, "", "0", "a", 0.0, 1.0, 0j, b"\x00", (), (0,), [], {}, {0}, float("nan"), object()):
            self.says(is_machine, [((other,),), ((0, 0), (0, other)), ((other, 0), (0, 0))], False)
            if other != (0,):
                self.says(is_machine, [(other,), ((0,), other), (other, (0,))], False)

    def test_anything_else(self):
        self.says(is_machine, odd_things(), False)


class IsWord(Asked):
    def test_words(self):
        self.says(lambda thing: is_word(HALL, thing), [(), (0,), (1,), (2,), (2, 2), (0, 1, 2, 0), (1,) * 4000], True)
        self.says(lambda thing: is_word(ONE_ROOM, thing), [(), (0,), (0, 0, 0)], True)
        self.says(lambda thing: is_word(made_machine(30, 9, 1), thing), [(), (8,), (0, 8, 7)], True)
        for machine in (ONE_ROOM, ROUND, HALL):
            self.says(lambda thing: is_word(machine, thing), words_of(machine, 4), True)

    def test_letters_are_counted_not_rooms(self):
        self.assertIs(is_word(((0, 0, 0),), (2,)), True)
        self.assertIs(is_word(((0,), (0,), (0,)), (2,)), False)

    def test_letters_that_are_not_there(self):
        self.says(lambda thing: is_word(ROUND, thing), [(2,), (-1,), (0, 2), (2, 0), (0, -1, 0), (10 ** 50,)], False)
        self.says(lambda thing: is_word(ROUND, thing), [(0,) * 3999 + (2,), (-1,) + (0,) * 3999], False)

    def test_lists_truths_and_texts(self):
        self.says(lambda thing: is_word(ROUND, thing), [
            [], [0], [0, 1], (True,), (False,), (0, True), (False, 0), "", "-", "a", "ab", ("a",), (0, "a"),
            ((0,),), (0, (1,)), ([0],), (None,), (0, None), None, 0, 1, True, False, (0.0,), (1.0, 0),
        ], False)

    def test_anything_else(self):
        for machine in (ONE_ROOM, ROUND, HALL):
            self.says(lambda thing: is_word(machine, thing), odd_things(), False)


class IsSet(Asked):
    def test_sets(self):
        self.says(lambda thing: is_set(ROUND, thing), [(0,), (3,), (0, 3), (1, 2), (0, 1, 2, 3)], True)
        self.says(lambda thing: is_set(ONE_ROOM, thing), [(0,)], True)
        many = made_machine(40, 2, 1)
        self.says(lambda thing: is_set(many, thing), [tuple(range(40)), (39,), (0, 39), (5, 6, 30)], True)

    def test_all_tuples_of_few_rooms(self):
        for machine in (ONE_ROOM, ROUND, HALL):
            right = sets_of(machine)
            for many in range(len(machine) + 2):
                for thing in product(range(-1, len(machine) + 1), repeat=many):
                    self.assertIs(is_set(machine, thing), thing in right, thing)

    def test_rooms_are_counted_not_letters(self):
        self.assertIs(is_set(((0,), (0,), (0,)), (0, 2)), True)
        self.assertIs(is_set(((0, 0, 0),), (0, 2)), False)

    def test_no_room(self):
        self.says(lambda thing: is_set(ROUND, thing), [()], False)

    def test_not_rising_or_twice(self):
        self.says(lambda thing: is_set(ROUND, thing), [
            (1, 0), (3, 2, 1), (0, 2, 1), (0, 0), (1, 1), (0, 1, 1), (0, 0, 1), (0, 1, 2, 3, 3), (2, 0, 1),
        ], False)

    def test_rooms_that_are_not_there(self):
        self.says(lambda thing: is_set(ROUND, thing), [
            (4,), (-1,), (-1, 0), (0, 4), (0, 1, 2, 3, 4), (10 ** 50,), (-10 ** 50, 0),
        ], False)

    def test_lists_truths_and_texts(self):
        self.says(lambda thing: is_set(ROUND, thing), [
            [], [0], [0, 1], (False,), (True,), (False, 1), (0, True), (0, None), ("0",), (0, "1"), "01", "",
            (0.0,), (0, 1.0), ((0,),), (0, (1,)), ([0],), {0, 1}, frozenset({0}), {0: 1}, range(2),
        ], False)

    def test_anything_else(self):
        for machine in (ONE_ROOM, ROUND, HALL):
            self.says(lambda thing: is_set(machine, thing), odd_things(), False)


class AskedOfAnything(unittest.TestCase):
    def ask_all(self, thing):
        return (is_machine(thing), is_word(HALL, thing), is_set(HALL, thing))

    def test_what_is_handed_in_is_not_changed(self):
        for thing in ([2, 0, 1], [[0]], {0: [1, 0]}, {"a": {"b": ()}}, ([1, 0], [0, 1]), (2, [1], 0), bytearray(b"ab")):
            before = deepcopy(thing)
            self.ask_all(thing)
            self.assertEqual(thing, before)

    def test_nothing_is_taken_out_of_what_is_walked_once(self):
        for thing in (iter([0, 1]), (room for room in (0, 1)), zip((0, 1))):
            self.ask_all(thing)
            self.assertEqual(len(list(thing)), 2)
        inner = iter([0, 1])
        self.ask_all((inner,))
        self.assertEqual(list(inner), [0, 1])

    def test_asked_again_the_same_is_told(self):
        for thing in odd_things() + [HALL, ROUND, (), (0,), (0, 1), (1, 0)]:
            self.assertEqual(self.ask_all(thing), self.ask_all(thing))

    def test_sixty_deep(self):
        for wrap in (lambda x: (x,), lambda x: (x, x), lambda x: ((0,), x), lambda x: [x], lambda x: {"x": x}):
            for core in (0, (), (0,), None, "a"):
                self.assertEqual(self.ask_all(nested(60, wrap, core)), (False, False, False))

    def test_the_machine_is_the_same_behind_the_call(self):
        machine = made_machine(9, 3, 5)
        before = deepcopy(machine)
        is_word(machine, (0, 1)), is_set(machine, (0, 1)), is_machine(machine)
        self.assertEqual(machine, before)


def turned_back(order):
    """The order that undoes this one."""
    return tuple(order.index(room) for room in range(len(order)))


class Renamed(unittest.TestCase):
    def test_written_out(self):
        self.assertEqual(renamed(((1, 0, 2), (1, 2, 0), (0, 0, 0)), (2, 0, 1)), ((1, 1, 1), (2, 1, 0), (2, 0, 1)))
        self.assertEqual(renamed(((1,), (2,), (2,)), (2, 1, 0)), ((0,), (0,), (1,)))

    def test_an_order_that_changes_nothing(self):
        for machine in (ONE_ROOM, ROUND, HALL, made_machine(26, 6, 1)):
            self.assertEqual(renamed(machine, tuple(range(len(machine)))), machine)

    def test_an_order_that_turns_about(self):
        self.assertEqual(renamed(ROUND, (3, 2, 1, 0)), ((3, 3), (0, 1), (1, 2), (2, 3)))

    def test_each_way_is_kept(self):
        machines = [ROUND, HALL] + list(small_machines())
        for machine in machines:
            for order in permutations(range(len(machine))):
                told = renamed(machine, order)
                self.assertEqual(len(told), len(machine))
                for room, row in enumerate(told):
                    self.assertEqual([order[goal] for goal in row], list(machine[order[room]]))

    def test_turned_back_it_is_the_same(self):
        for seed in range(20):
            machine = made_machine(7 + seed, 1 + seed % 6, seed)
            order = tuple(sorted(range(len(machine)), key=lambda room: (room * 11 + seed) % 29))
            self.assertEqual(renamed(renamed(machine, order), turned_back(order)), machine)
        for order in permutations(range(4)):
            self.assertEqual(renamed(renamed(ROUND, order), turned_back(order)), ROUND)

    def test_words_lead_as_they_did(self):
        machine = made_machine(12, 3, 4)
        order = (5, 0, 11, 3, 2, 1, 9, 8, 10, 4, 7, 6)
        told = renamed(machine, order)
        for seed in range(10):
            word = made_word(3, 30, seed)
            for room in range(12):
                self.assertEqual(order[led(told, room, word)], led(machine, order[room], word))

    def test_it_is_a_machine_built_of_tuples(self):
        for machine, order in ((ONE_ROOM, (0,)), (ROUND, (1, 3, 0, 2)), (HALL, (2, 1, 0))):
            told = renamed(machine, order)
            self.assertTrue(is_told(told) and is_machine(told))

    def test_same_behind_the_call_and_asked_again(self):
        machine, order = made_machine(9, 3, 2), (8, 1, 0, 3, 2, 5, 4, 7, 6)
        before = deepcopy((machine, order))
        self.assertEqual(renamed(machine, order), renamed(machine, order))
        self.assertEqual((machine, order), before)


class Relettered(unittest.TestCase):
    def test_letters_in_the_order_they_had(self):
        for machine in (ONE_ROOM, ROUND, HALL, made_machine(26, 6, 1)):
            self.assertEqual(relettered(machine, tuple(range(len(machine[0])))), machine)

    def test_another_order(self):
        self.assertEqual(relettered(HALL, (2, 0, 1)), ((2, 1, 0), (0, 1, 2), (0, 0, 0)))
        self.assertEqual(relettered(ROUND, (1, 0)), ((0, 1), (1, 2), (2, 3), (0, 0)))

    def test_left_out(self):
        self.assertEqual(relettered(HALL, (1,)), ((0,), (2,), (0,)))
        self.assertEqual(relettered(HALL, (0, 2)), ((1, 2), (1, 0), (0, 0)))

    def test_alike_and_more_than_there_were(self):
        self.assertEqual(relettered(HALL, (1, 1)), ((0, 0), (2, 2), (0, 0)))
        self.assertEqual(relettered(ONE_ROOM, (0,) * 6), ((0,) * 6,))
        self.assertEqual(relettered(ROUND, (1, 0, 0, 1, 0)), (
            (0, 1, 1, 0, 1), (1, 2, 2, 1, 2), (2, 3, 3, 2, 3), (0, 0, 0, 0, 0),
        ))

    def test_each_letter_leads_as_the_named_one(self):
        for machine in (ONE_ROOM, ROUND, HALL, made_machine(5, 2, 3)):
            for many in (1, 2, 3, 6):
                for letters in list(product(range(len(machine[0])), repeat=many))[:200]:
                    told = relettered(machine, letters)
                    self.assertEqual(len(told), len(machine))
                    for room, row in enumerate(told):
                        self.assertEqual(list(row), [machine[room][letter] for letter in letters])

    def test_words_lead_as_their_letters_did(self):
        machine, letters = made_machine(11, 4, 6), (3, 3, 0, 1, 0)
        told = relettered(machine, letters)
        for seed in range(10):
            word = made_word(5, 30, seed)
            for room in range(11):
                self.assertEqual(led(told, room, word), led(machine, room, tuple(letters[k] for k in word)))

    def test_it_is_a_machine_built_of_tuples(self):
        for machine, letters in ((ONE_ROOM, (0, 0)), (ROUND, (1,)), (HALL, (2, 2, 1, 0))):
            told = relettered(machine, letters)
            self.assertTrue(is_told(told) and is_machine(told))

    def test_same_behind_the_call_and_asked_again(self):
        machine, letters = made_machine(9, 3, 2), (2, 0, 0, 1)
        before = deepcopy((machine, letters))
        self.assertEqual(relettered(machine, letters), relettered(machine, letters))
        self.assertEqual((machine, letters), before)


if __name__ == "__main__":
    unittest.main()
