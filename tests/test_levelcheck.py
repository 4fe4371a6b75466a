"""Points 11 and 12, and what point 2 says of their functions."""

import unittest
from copy import deepcopy
from itertools import combinations, product

from bringhome.levelcheck import shows_into, shows_least, shows_levels
from bringhome.levels import least_word, levels, word_into
from samples import (
    EXCHANGE, HALL, ONE_ROOM, PARTS, ROUND, Stubborn, all_rooms, changed_in_one_place, goal_by_hand, made_machine,
    nested, odd_things, round_machine, sets_of, small_machines, words_of,
)

STILL = ((0, 0), (1, 1), (2, 2))
OTHERS = [None, True, False, 0, 1, 2, 3, -1, 9, 1.0, "", "word", "none", "a", (), (0,), (1,), (2,), (0, 1), (1, 0),
          (0, 2), ((0,),), ((0, 1),), (((0, 1, 2),),), [], [0], {}, 10 ** 30, (True,), (0, 0), (0, 7)]


def is_set_by_hand(machine, thing):
    """Whether thing is a set, asked of the bare kinds."""
    return (type(thing) is tuple and all(type(room) is int for room in thing) and bool(thing)
            and list(thing) == sorted(set(thing)) and 0 <= thing[0] and thing[-1] < len(machine))


def shows_levels_by_hand(machine, rooms, shown, closed):
    """What point 11 says, word by word."""
    if type(shown) is not tuple or not all(type(level) is tuple for level in shown):
        return False
    if not all(is_set_by_hand(machine, some) for level in shown for some in level):
        return False
    if closed and not shown:
        return False
    if shown and rooms not in shown[0]:
        return False
    for at, level in enumerate(shown):
        if at < len(shown) - 1 or closed:
            near = [some for there in shown[:at + 2] for some in there]
            for some, letter in product(level, range(len(machine[0]))):
                if goal_by_hand(machine, some, (letter,)) not in near:
                    return False
    return True


def shows_by_hand(machine, rooms, is_due, told):
    """What point 12 says, word by word."""
    if type(told) is not tuple or not told or type(told[0]) is not str:
        return False
    if told[0] == "word" and len(told) == 3:
        word, shown = told[1:]
        if type(word) is not tuple or not all(type(at) is int and 0 <= at < len(machine[0]) for at in word):
            return False
        if not is_due(goal_by_hand(machine, rooms, word)) or not shows_levels_by_hand(machine, rooms, shown, False):
            return False
        return len(shown) == len(word) and not any(is_due(some) for level in shown for some in level)
    if told[0] == "none" and len(told) == 2:
        shown = told[1]
        return shows_levels_by_hand(machine, rooms, shown, True) and not any(
            is_due(some) for level in shown for some in level)
    return False


class Answered(unittest.TestCase):
    def says(self, answer, asked, *handed):
        self.assertIs(asked(*handed), answer)

    def shows(self, *handed):
        self.says(True, shows_levels, *handed)

    def shows_not(self, *handed):
        self.says(False, shows_levels, *handed)


class ShowsLevels(Answered):
    def test_told_levels(self):
        for machine in [ONE_ROOM, ROUND, HALL, EXCHANGE, PARTS, STILL, made_machine(6, 3, 1)] + list(small_machines()):
            for rooms in sets_of(machine):
                told = levels(machine, rooms)
                self.shows(machine, rooms, told, True)
                self.shows(machine, rooms, told, False)

    def test_the_first_levels_alone(self):
        for machine in (ROUND, HALL, PARTS, EXCHANGE, round_machine(5)):
            for rooms in sets_of(machine):
                told = levels(machine, rooms)
                for many in range(len(told)):
                    self.shows(machine, rooms, told[:many], False)
                    self.shows_not(machine, rooms, told[:many], True)

    def test_no_level(self):
        for machine in (ONE_ROOM, ROUND, HALL):
            self.shows(machine, all_rooms(machine), (), False)
            self.shows_not(machine, all_rooms(machine), (), True)

    def test_levels_of_no_set(self):
        self.shows_not(STILL, (0,), ((),), False)
        self.shows_not(STILL, (0,), ((),), True)
        self.shows_not(STILL, (0,), ((), ((0,),)), False)
        self.shows(STILL, (0,), (((0,),), (), ()), False)
        self.shows(STILL, (0,), (((0,),), (), ()), True)
        self.shows(STILL, (0,), (((0,),), (), ((1,),), ()), True)
        self.shows_not(ROUND, (0,), (((0,),), ()), False)
        self.shows(ROUND, (0,), levels(ROUND, (0,)) + ((), ()), True)
        self.shows(ROUND, (0,), levels(ROUND, (0,)) + ((), ()), False)

    def test_rooms_stand_in_the_first(self):
        self.shows(ROUND, (0,), (((0,),),), False)
        self.shows(ROUND, (0,), (((1, 2), (0,)),), False)
        self.shows_not(ROUND, (0,), (((1,),),), False)
        self.shows_not(ROUND, (0,), (((1,),), ((0,), (2,), (1,))), False)
        self.shows_not(STILL, (0,), (((1,),), ((0,),)), True)
        self.shows_not(STILL, (0, 1), (((0,), (1,)),), True)

    def test_other_orders_and_twice(self):
        told = levels(HALL, (0, 1, 2))
        self.shows(HALL, (0, 1, 2), tuple(level[::-1] for level in told), True)
        self.shows(HALL, (0, 1, 2), tuple(level + level for level in told), True)
        self.shows(HALL, (0, 1, 2), tuple(level + told[0] for level in told), True)
        self.shows(HALL, (0, 1, 2), told + told[-1:], True)
        self.shows(HALL, (0, 1, 2), told + told, True)
        everything = tuple(some for level in told for some in level)
        self.shows(HALL, (0, 1, 2), (everything,), True)
        self.shows(HALL, (0, 1, 2), (everything, everything), True)
        self.shows_not(HALL, (0, 1, 2), told[::-1], True)
        self.shows_not(HALL, (0, 1, 2), told[:1] + told[2:] + told[1:2], True)

    def test_more_sets_than_needed(self):
        self.shows(STILL, (0,), (((0,), (1,), (0, 2)),), True)
        self.shows(ROUND, (0,), (((0,),), ((1,), (0, 1, 2, 3))), False)
        self.shows_not(ROUND, (0,), (((0,), (0, 1, 2, 3)), ((1,), (0, 1, 2, 3))), False)
        self.shows(ROUND, (0,), (((0,), (0, 1, 2, 3)), ((1,), (0, 1, 2))), False)

    def test_all_sets_at_once(self):
        for machine in (ROUND, HALL, EXCHANGE, PARTS):
            for rooms in sets_of(machine):
                self.shows(machine, rooms, (tuple(sets_of(machine)),), True)
                self.shows(machine, rooms, ((rooms,), tuple(sets_of(machine))), True)

    def test_one_set_left_out(self):
        for machine in (ROUND, HALL, EXCHANGE, PARTS):
            for rooms in ((0,), (0, 1), all_rooms(machine)):
                told = levels(machine, rooms)
                for at, level in enumerate(told):
                    for out in level:
                        less = told[:at] + (tuple(some for some in level if some != out),) + told[at + 1:]
                        self.shows_not(machine, rooms, less, True)

    def test_a_set_that_stands_too_late(self):
        # Room 2 is come to by two letters: at place 3 it is too late, at places 0 to 2 it is not.
        rooms, machine = (0,), ((1,), (2,), (2,))
        self.shows(machine, rooms, (((0,),), ((1,),), ((2,),), ()), True)
        self.shows(machine, rooms, (((0,),), ((1,), (2,)), (), ()), True)
        self.shows(machine, rooms, (((0,), (2,)), ((1,),), (), ()), True)
        self.shows_not(machine, rooms, (((0,),), ((1,),), (), ((2,),)), True)
        self.shows_not(machine, rooms, (((0,),), ((1,),), (), ((2,),)), False)
        self.shows_not(machine, rooms, (((0,),), (), ((1,),), ((2,),)), False)

    def test_a_set_that_stands_twice_counts_at_its_first_place(self):
        machine = ((1,), (2,), (2,))
        self.shows(machine, (0,), (((0,),), ((1,),), ((2,),), ((1,), (2,), (0,))), True)
        self.shows(machine, (0,), (((0,),), ((1,), (0,)), ((2,), (1,)), ((2,),)), False)
        # Told again ahead of where its goals stand, it is asked there, too.
        self.shows_not(machine, (0,), (((0,), (1,)), ((1,),), ((2,),)), False)

    def test_the_last_is_asked_where_closed_alone(self):
        self.shows(ROUND, (0,), (((0,),),), False)
        self.shows_not(ROUND, (0,), (((0,),),), True)
        self.shows(ROUND, (0,), (((0,),), ((1,),)), False)
        self.shows_not(ROUND, (0,), (((0,),), ((1,),)), True)
        self.shows(EXCHANGE, (0, 1, 2, 3), (((0, 1, 2, 3),),), True)

    def test_the_last_but_one_is_always_asked(self):
        self.shows_not(ROUND, (0,), (((0,),), ((2,),)), False)
        self.shows_not(ROUND, (0,), (((0,),), ((1,),), ((3,),)), False)

    def test_each_letter_is_asked(self):
        machine = ((0, 0, 1), (1, 1, 1))
        self.shows_not(machine, (0,), (((0,),),), True)
        self.shows(machine, (0,), (((0,),), ((1,),)), True)
        self.shows_not(((1, 0, 0), (1, 1, 1)), (0,), (((0,),),), True)

    def test_all_short_tellings_of_two_rooms(self):
        parts = [level for many in range(3) for level in combinations([(0,), (1,), (0, 1)], many)]
        for machine in small_machines(2, 2):
            for shown in [told for many in range(4) for told in product(parts, repeat=many)]:
                for rooms in sets_of(machine):
                    for closed in (True, False):
                        self.says(shows_levels_by_hand(machine, rooms, shown, closed),
                                  shows_levels, machine, rooms, shown, closed)

    def test_otherwise_in_one_place(self):
        for machine, rooms in ((HALL, (0, 1, 2)), (ROUND, (2, 3)), (PARTS, (0, 3)), (STILL, (0, 2)), (ONE_ROOM, (0,))):
            told = levels(machine, rooms)
            for shown in changed_in_one_place(told, OTHERS):
                for closed in (True, False):
                    self.says(shows_levels_by_hand(machine, rooms, shown, closed),
                              shows_levels, machine, rooms, shown, closed)

    def test_what_is_no_set(self):
        for other in ([0], (True,), (False,), (), (1, 0), (0, 0), (4,), (-1,), (0, 4), "a", "", 0, None, {0}, (0.0,),
                      ("0",), ((0,),), (None,), ([0],), Stubborn(), (Stubborn(),), frozenset({0}), range(1)):
            for closed in (True, False):
                self.shows_not(ROUND, (0,), (((0,), other),), closed)
                self.shows_not(ROUND, (0,), (((0,),), (other,)), closed)
                self.shows_not(ROUND, (0,), levels(ROUND, (0,)) + ((other,),), closed)

    def test_what_is_no_tuple(self):
        told = levels(HALL, (0, 1, 2))
        for shown in (list(told), tuple(list(level) for level in told), [list(level) for level in told],
                      dict(enumerate(told)), iter(told), told[:1] + (list(told[1]),) + told[2:],
                      tuple(tuple(list(some) for some in level) for level in told), set(told), frozenset(told)):
            self.shows_not(HALL, (0, 1, 2), shown, True)
            self.shows_not(HALL, (0, 1, 2), shown, False)

    def test_truths_for_numbers(self):
        machine = ((1, 0), (1, 0))
        self.shows(machine, (0,), (((0,), (1,)),), True)
        self.shows_not(machine, (0,), (((False,), (1,)),), True)
        self.shows_not(machine, (0,), (((0,), (True,)),), True)

    def test_anything_else(self):
        for machine in (ONE_ROOM, ROUND, HALL):
            rooms = all_rooms(machine)
            for at, thing in enumerate(odd_things()):
                for shown in (thing, (thing,), ((thing,),), ((rooms,), thing), ((rooms,), (thing,)),
                              ((rooms, thing),), ((thing, rooms),), (thing, (rooms,)),
                              levels(machine, rooms) + (thing,), levels(machine, rooms) + ((thing,),)):
                    for closed in (True, False):
                        with self.subTest(at=at):
                            self.assertIn(shows_levels(machine, rooms, shown, closed), (True, False))
                            self.assertIs(type(shows_levels(machine, rooms, shown, closed)), bool)

    def test_sixty_deep(self):
        for wrap in (lambda x: (x,), lambda x: (x, x), lambda x: ((0,), x), lambda x: (x, ((0,),)), lambda x: [x]):
            for core in (0, (), (0,), ((0,),), None):
                for closed in (True, False):
                    self.shows_not(ROUND, (0,), nested(58, wrap, core), closed)
                    self.shows_not(ROUND, (0,), (((0,),), nested(58, wrap, core)), closed)
                    self.shows_not(ROUND, (0,), (((0,), nested(58, wrap, core)),), closed)


class ShowsLeast(Answered):
    def test_what_least_word_tells(self):
        machines = [ONE_ROOM, ROUND, HALL, EXCHANGE, PARTS, STILL, made_machine(7, 3, 1)] + list(small_machines())
        for machine in machines:
            for rooms in sets_of(machine):
                for many in range(1, len(rooms) + 2):
                    told = least_word(machine, rooms, many)
                    self.says(True, shows_least, machine, rooms, many, told)

    def test_nine_rooms(self):
        machine = round_machine(9)
        told = least_word(machine, all_rooms(machine), 1)
        self.says(True, shows_least, machine, all_rooms(machine), 1, told)
        self.says(False, shows_least, machine, all_rooms(machine), 1, (told[0], told[1] + (0,), told[2]))
        self.says(False, shows_least, machine, all_rooms(machine), 1, (told[0], told[1], told[2][:-1]))
        self.says(False, shows_least, machine, all_rooms(machine), 2, told)

    def test_another_word_that_is_as_short(self):
        machine = ((1, 0, 1), (0, 0, 1))
        for word in ((1,), (2,)):
            self.says(True, shows_least, machine, (0, 1), 1, ("word", word, (((0, 1),),)))
        self.says(False, shows_least, machine, (0, 1), 1, ("word", (0,), (((0, 1),),)))

    def test_all_words_of_some_letters(self):
        for machine in (ROUND, HALL, EXCHANGE, PARTS):
            for rooms in sets_of(machine)[::2]:
                told = levels(machine, rooms)
                for many in (1, 2):
                    least = least_word(machine, rooms, many)
                    for word in words_of(machine, 4):
                        right = least[0] == "word" and len(least[1]) == len(word) and len(
                            goal_by_hand(machine, rooms, word)) <= many
                        self.says(right, shows_least, machine, rooms, many, ("word", word, told[:len(word)]))

    def test_a_word_that_is_too_long(self):
        # The level at place 1 has a set of one room: that word is not the shortest.
        self.says(False, shows_least, HALL, (0, 1), 1, ("word", (0, 0), levels(HALL, (0, 1))[:2]))
        self.says(False, shows_least, ONE_ROOM, (0,), 1, ("word", (0,), (((0,),),)))
        self.says(True, shows_least, ONE_ROOM, (0,), 1, ("word", (), ()))

    def test_none_where_none_does(self):
        self.says(True, shows_least, EXCHANGE, (0, 1, 2, 3), 3, ("none", (((0, 1, 2, 3),),)))
        self.says(False, shows_least, EXCHANGE, (0, 1, 2, 3), 4, ("none", (((0, 1, 2, 3),),)))
        self.says(False, shows_least, EXCHANGE, (0, 1, 2, 3), 3, ("none", ()))
        self.says(False, shows_least, HALL, (0, 1, 2), 1, ("none", levels(HALL, (0, 1, 2))))
        self.says(False, shows_least, HALL, (0, 1, 2), 1, ("none", levels(HALL, (0, 1, 2))[:2]))
        self.says(False, shows_least, PARTS, (0, 3), 1, ("none", levels(PARTS, (0, 3))[:-1]))
        self.says(True, shows_least, PARTS, (0, 3), 1, ("none", levels(PARTS, (0, 3))))

    def test_levels_in_another_order_and_with_more(self):
        shown = levels(PARTS, (0, 3))
        self.says(True, shows_least, PARTS, (0, 3), 1, ("none", tuple(level[::-1] * 2 for level in shown)))
        self.says(True, shows_least, PARTS, (0, 3), 1, ("none", (tuple(some for level in shown for some in level),)))
        # A set of one room may stand in none of them, needed or not.
        self.says(False, shows_least, PARTS, (0, 3), 1, ("none", shown + (((4,),),)))
        self.says(True, shows_least, HALL, (0, 1, 2), 1, ("word", (0, 0), (((0, 1, 2),), ((0, 2), (0, 1), (0, 2)))))
        self.says(False, shows_least, HALL, (0, 1, 2), 1, ("word", (0, 0), (((0, 1, 2),), ((0, 2), (0, 1), (0,)))))

    def test_word_and_none_are_not_taken_for_another(self):
        shown = levels(EXCHANGE, (0, 1))
        self.says(True, shows_least, EXCHANGE, (0, 1), 1, ("none", shown))
        for told in (("word", shown), ("none", (), shown), ("word", (), shown), ("none", shown, shown), ("none",),
                     ("word",), (), ("None", shown), ("", shown), ("none ", shown), (None, shown), (b"none", shown),
                     ["none", shown], shown, ("none", shown, None), (0, shown), (("none",), shown), ("none", [shown])):
            self.says(False, shows_least, EXCHANGE, (0, 1), 1, told)
        self.says(True, shows_least, HALL, (0, 1), 1, ("word", (0,), (((0, 1),),)))
        for told in (("none", (0,), (((0, 1),),)), ("word", (0,)), ("word", (0,), (((0, 1),),), ()),
                     ("Word", (0,), (((0, 1),),)),
                     ("word", [0], (((0, 1),),)), ("word", (False,), (((0, 1),),)), ("word", "a", (((0, 1),),)),
                     ["word", (0,), (((0, 1),),)], ("word", (0,), [((0, 1),)]), ("word", (((0, 1),),), (0,)),
                     ("word", 0, (((0, 1),),)), ("word", (3,), (((0, 1),),)), ("word", (-1,), (((0, 1),),))):
            self.says(False, shows_least, HALL, (0, 1), 1, told)

    def test_otherwise_in_one_place(self):
        asks = [(HALL, (0, 1, 2), 1), (HALL, (0, 1, 2), 2), (PARTS, (0, 3), 1), (EXCHANGE, (0, 1, 2, 3), 2),
                (ONE_ROOM, (0,), 1), (round_machine(3), (0, 1, 2), 1)]
        for machine, rooms, many in asks:
            for told in changed_in_one_place(least_word(machine, rooms, many), OTHERS):
                self.says(shows_by_hand(machine, rooms, lambda some: len(some) <= many, told),
                          shows_least, machine, rooms, many, told)

    def test_anything_else(self):
        for machine in (ONE_ROOM, ROUND, HALL, EXCHANGE):
            rooms = all_rooms(machine)
            for at, thing in enumerate(odd_things()):
                for told in (thing, (thing,), ("word", thing, ()), ("word", (0,), thing), ("none", thing),
                             (thing, (), ()), (thing, ((rooms,),)), ("none", ((rooms,), thing)),
                             ("word", (0,), ((thing,),)), ("none", (thing, (rooms,))), (thing, thing, thing)):
                    with self.subTest(at=at):
                        self.assertIs(type(shows_least(machine, rooms, 1, told)), bool)
                        self.assertIs(type(shows_into(machine, rooms, (0,), told)), bool)

    def test_sixty_deep(self):
        for wrap in (lambda x: (x,), lambda x: (x, x), lambda x: ("word", x, x), lambda x: ("none", x), lambda x: [x]):
            for core in (0, (), (0,), ((0,),), None):
                self.says(False, shows_least, ROUND, (0, 1), 1, nested(60, wrap, core))
                self.says(False, shows_into, ROUND, (0, 1), (0,), nested(60, wrap, core))


class ShowsInto(Answered):
    def test_what_word_into_tells(self):
        machines = [ONE_ROOM, HALL, EXCHANGE, PARTS, STILL, made_machine(5, 3, 1)] + list(small_machines())
        for machine in machines:
            for rooms in sets_of(machine)[::2] + [all_rooms(machine)]:
                for goal in sets_of(machine):
                    told = word_into(machine, rooms, goal)
                    self.says(True, shows_into, machine, rooms, goal, told)

    def test_what_is_told_of_another_goal(self):
        for machine in (HALL, PARTS, EXCHANGE):
            rooms = all_rooms(machine)
            for goal in sets_of(machine):
                for other in sets_of(machine):
                    told = word_into(machine, rooms, other)
                    self.says(shows_by_hand(machine, rooms, lambda some: set(some) <= set(goal), told),
                              shows_into, machine, rooms, goal, told)

    def test_written_out(self):
        self.says(True, shows_into, ROUND, (0,), (2, 3), ("word", (0, 0), (((0,),), ((1,),))))
        self.says(False, shows_into, ROUND, (0,), (2, 3), ("word", (0, 0, 0), (((0,),), ((1,),), ((2,),))))
        self.says(False, shows_into, ROUND, (0,), (1, 2), ("word", (0, 0), (((0,),), ((1,),))))
        self.says(False, shows_into, ROUND, (0,), (2, 3), ("word", (0, 1), (((0,),), ((1,),))))
        self.says(True, shows_into, STILL, (0,), (1, 2), ("none", (((0,),),)))
        self.says(False, shows_into, STILL, (0,), (0, 2), ("none", (((0,),),)))
        self.says(True, shows_into, STILL, (0, 1), (0, 2), ("none", (((0, 1),),)))
        self.says(True, shows_into, STILL, (0,), (0, 2), ("word", (), ()))
        self.says(False, shows_into, STILL, (0,), (1, 2), ("word", (), ()))

    def test_all_rooms_must_be_in_goal(self):
        machine = ((2, 2), (0, 2), (2, 2))
        self.says(False, shows_into, machine, (0, 1), (2,), ("word", (0,), (((0, 1),),)))
        self.says(True, shows_into, machine, (0, 1), (2,), ("word", (1,), (((0, 1),),)))

    def test_otherwise_in_one_place(self):
        asks = [(HALL, (0, 1, 2), (2,)), (HALL, (0, 1, 2), (0, 1)), (PARTS, (0, 3), (0, 1, 2)), (STILL, (0,), (1,)),
                (ONE_ROOM, (0,), (0,)), (ROUND, (0,), (3,))]
        for machine, rooms, goal in asks:
            for told in changed_in_one_place(word_into(machine, rooms, goal), OTHERS):
                self.says(shows_by_hand(machine, rooms, lambda some: set(some) <= set(goal), told),
                          shows_into, machine, rooms, goal, told)


class PointTwo(unittest.TestCase):
    def asks(self):
        machine, rooms = made_machine(6, 3, 4), (1, 4, 5)
        return [
            (shows_levels, (machine, rooms, levels(machine, rooms), True)),
            (shows_levels, (machine, rooms, [list(level) for level in levels(machine, rooms)], True)),
            (shows_least, (machine, rooms, 1, least_word(machine, rooms, 1))),
            (shows_least, (machine, rooms, 1, list(least_word(machine, rooms, 1)))),
            (shows_into, (machine, rooms, (2, 3), word_into(machine, rooms, (2, 3)))),
            (shows_into, (machine, rooms, (2, 3), {"word": [0]})),
        ]

    def test_what_is_handed_in_is_the_same_behind_the_call(self):
        for asked, handed in self.asks():
            before = deepcopy(handed)
            asked(*handed)
            self.assertEqual(handed, before)

    def test_asked_again_the_same_is_told(self):
        for asked, handed in self.asks():
            self.assertIs(asked(*handed), asked(*handed))

    def test_nothing_is_taken_out_of_what_is_walked_once(self):
        for wrap in (lambda x: x, lambda x: (x,), lambda x: ((x,),), lambda x: ("none", x), lambda x: ("word", x, ())):
            inner = iter([(0,), (1,)])
            thing = wrap(inner)
            shows_levels(ROUND, (0,), thing, True), shows_least(ROUND, (0,), 1, thing), shows_into(
                ROUND, (0,), (1,), thing)
            self.assertEqual(list(inner), [(0,), (1,)])


if __name__ == "__main__":
    unittest.main()
