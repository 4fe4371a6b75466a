"""Point 17, the first half of (e) of point 3, and what point 2 says of their functions."""

import unittest
from copy import deepcopy
from itertools import combinations, product

from bringhome.machines import is_machine, renamed
from bringhome.partings import folded, is_kept, is_parting, kept_by
from bringhome.walking import brought, led
from samples import (
    EXCHANGE, HALL, ONE_ROOM, PARITY, PARTS, ROUND, Stubborn, WIDE_EXCHANGE, all_rooms, changed_in_one_place,
    copied_rooms, is_told, made_machine, made_word, nested, odd_things, parted, partings_of, round_machine,
    small_machines, wide_machines, with_copies, words_of,
)

OTHERS = [None, True, False, 0, 1, 2, 3, 4, 5, -1, 1.0, 0.0, "", "0", (), (0,), [], [0], {}, 10 ** 30]
# Letter 0 goes round all six rooms, letter 1 leads each to the one across.
SIX = tuple(((room + 1) % 6, (room + 3) % 6) for room in range(6))


def is_parting_by_hand(machine, thing):
    """What point 17 says of partings, asked of the bare kinds."""
    if type(thing) is not tuple or len(thing) != len(machine) or not all(type(part) is int for part in thing):
        return False
    return list(dict.fromkeys(thing)) == list(range(len(set(thing))))


def is_kept_by_hand(machine, parting):
    """What point 17 says of kept partings, pair by pair and letter by letter."""
    return all(parting[machine[one][letter]] == parting[machine[other][letter]]
               for one, other in combinations(all_rooms(machine), 2) if parting[one] == parting[other]
               for letter in range(len(machine[0])))


def has_together(parting, pairs):
    """Whether a parting has the two rooms of each pair in one class."""
    return all(parting[one] == parting[other] for one, other in pairs)


def together_in(parting):
    """The pairs of rooms that a parting has together."""
    return [(one, other) for one, other in combinations(range(len(parting)), 2) if parting[one] == parting[other]]


def drawn_pairs(rooms, many, seed):
    """So many tuples of two rooms, the same for the same numbers."""
    strewn = made_machine(max(many, 1), 2, seed)
    return tuple((one % rooms, other % rooms) for one, other in strewn)[:many]


class IsParting(unittest.TestCase):
    def says(self, answer, machine, thing):
        self.assertIs(is_parting(machine, thing), answer)

    def test_written_out(self):
        for thing in ((0, 0, 0, 0), (0, 1, 2, 3), (0, 1, 0, 1), (0, 0, 1, 2), (0, 1, 1, 0), (0, 1, 2, 0)):
            self.says(True, ROUND, thing)
        for thing in ((1, 0, 0, 0), (0, 2, 1, 0), (0, 0, 2, 1), (0, 1, 3, 2), (0, 0, 0, 2), (1, 1, 1, 1), (0, 1, -1, 0),
                      (-1, 0, 1, 2), (0, 1, 2, 4), (1, 2, 3, 4)):
            self.says(False, ROUND, thing)

    def test_all_tuples_of_few_numbers(self):
        for machine in (ONE_ROOM, ((1,), (0,)), HALL, ROUND, PARTS):
            right = set(partings_of(len(machine)))
            for thing in product(range(-1, len(machine) + 1), repeat=len(machine)):
                self.says(thing in right, machine, thing)

    def test_how_many_there_are(self):
        for rooms, many in ((1, 1), (2, 2), (3, 5), (4, 15), (5, 52), (6, 203)):
            machine = made_machine(rooms, 1, 1)
            things = product(range(rooms), repeat=rooms)
            self.assertEqual(len([thing for thing in things if is_parting(machine, thing)]), many)

    def test_one_class_too_many_or_too_few(self):
        for machine in (ONE_ROOM, HALL, ROUND, PARTS, made_machine(26, 6, 1)):
            for parting in (all_rooms(machine), (0,) * len(machine)):
                self.says(True, machine, parting)
                for thing in (parting[:-1], parting[1:], parting + (0,), parting + (len(machine),), (0,) + parting,
                              parting * 2, ()):
                    self.says(False, machine, thing)

    def test_drawn_classes(self):
        for seed in range(200):
            rooms = 1 + seed % 26
            machine = made_machine(rooms, 1 + seed % 6, seed)
            marks = tuple(row[0] % (1 + seed % 7) for row in made_machine(rooms, 1, seed + 1))
            self.says(True, machine, parted(marks))
            self.says(is_parting_by_hand(machine, marks), machine, marks)

    def test_a_class_that_comes_first_and_is_not_the_next_number(self):
        for seed in range(60):
            rooms = 2 + seed % 25
            machine = made_machine(rooms, 2, seed)
            parting = parted(tuple(row[0] % (2 + seed % 9) for row in made_machine(rooms, 1, seed)))
            for at in range(rooms):
                many = len(set(parting[:at]))
                for number in (many + 1, many + 2, many + 100, -1, -many - 1):
                    self.says(False, machine, parting[:at] + (number,) + parting[at + 1:])
            # Two classes called the other way about.
            if max(parting) > 0:
                self.says(False, machine, tuple({0: 1, 1: 0}.get(number, number) for number in parting))

    def test_otherwise_in_one_place(self):
        for machine in (ONE_ROOM, HALL, ROUND, PARTS):
            for parting in partings_of(len(machine)):
                for thing in changed_in_one_place(parting, OTHERS):
                    self.says(is_parting_by_hand(machine, thing), machine, thing)

    def test_truths_and_lists(self):
        for thing in ((False, 1, 2), (0, True, 2), (False, True, 2), (0, 0, True), (0, 0, False), (0, 0.0, 1),
                      [0, 1, 2], ([0], 1, 2), ((0,), 1, 2), "012", ("0", "1", "2"), range(3), {0: 0, 1: 1, 2: 2},
                      iter((0, 1, 2)), {0, 1, 2}, b"\x00\x01\x02", bytearray(3), (None, 0, 1), (0, None, 1),
                      (Stubborn(), 0, 0), (0, Stubborn(), 0), (0, 0, Stubborn()), Stubborn()):
            self.says(False, HALL, thing)

    def test_anything_else(self):
        for machine in (ONE_ROOM, HALL, ROUND, made_machine(26, 6, 1)):
            for at, thing in enumerate(odd_things()):
                for wrapped in (thing, (thing,), (0, thing), (thing, 0, 0), (0, 0, thing), (thing,) * len(machine)):
                    with self.subTest(at=at):
                        self.says(is_parting_by_hand(machine, wrapped), machine, wrapped)

    def test_sixty_deep(self):
        for wrap in (lambda x: (x,), lambda x: (0, x, 1), lambda x: (x, x, x), lambda x: [x]):
            for core in (0, (0, 1, 2), None):
                self.says(False, HALL, nested(60, wrap, core))


class IsKept(unittest.TestCase):
    def test_written_out(self):
        self.assertIs(is_kept(PARTS, (0, 0, 0, 1, 1)), True)
        self.assertIs(is_kept(PARTS, (0, 0, 0, 1, 2)), True)
        self.assertIs(is_kept(PARTS, (0, 0, 1, 2, 2)), False)
        self.assertIs(is_kept(SIX, (0, 1, 0, 1, 0, 1)), True)
        self.assertIs(is_kept(SIX, (0, 1, 2, 0, 1, 2)), True)
        self.assertIs(is_kept(SIX, (0, 0, 1, 1, 2, 2)), False)
        self.assertIs(is_kept(PARITY, tuple(room % 2 for room in range(26))), True)

    def test_each_room_alone_and_all_together(self):
        machines = [ONE_ROOM, ROUND, HALL, PARTS, EXCHANGE] + list(small_machines()) + wide_machines()
        for machine in machines:
            self.assertIs(is_kept(machine, all_rooms(machine)), True)
            self.assertIs(is_kept(machine, (0,) * len(machine)), True)

    def test_all_partings(self):
        machines = [ROUND, HALL, PARTS, EXCHANGE, SIX] + list(small_machines())
        machines += [made_machine(5, 1 + seed % 3, seed) for seed in range(20)]
        for machine in machines:
            for parting in partings_of(len(machine)):
                self.assertIs(is_kept(machine, parting), is_kept_by_hand(machine, parting))

    def test_each_letter_is_asked(self):
        for letter in range(6):
            # This letter alone leads rooms 0 and 1 to unlike classes.
            row = tuple(2 if at == letter else 0 for at in range(6))
            machine = ((0,) * 6, row, (2,) * 6)
            self.assertIs(is_kept(machine, (0, 0, 1)), False)
            self.assertIs(is_kept(machine, (0, 1, 2)), True)

    def test_each_room_is_asked(self):
        for room in range(1, 26):
            machine = tuple((25,) if at == room else (0,) for at in range(26))
            self.assertIs(is_kept(machine, (0,) * 25 + (1,)), room == 25)

    def test_26_rooms(self):
        for machine in wide_machines():
            for seed in range(30):
                parting = parted(tuple(row[0] % (2 + seed) for row in made_machine(26, 1, seed)))
                self.assertIs(is_kept(machine, parting), is_kept_by_hand(machine, parting))
        for seed in range(10):
            copied = copied_rooms(3 + seed, 26, seed)
            machine = with_copies(made_machine(3 + seed, 6, seed), copied, seed)
            self.assertIs(is_kept(machine, parted(copied)), True)


class KeptBy(unittest.TestCase):
    def test_written_out(self):
        self.assertEqual(kept_by(ROUND, ((0, 1),)), (0, 0, 0, 0))
        self.assertEqual(kept_by(PARTS, ((0, 1),)), (0, 0, 0, 1, 2))
        self.assertEqual(kept_by(PARTS, ((4, 3),)), (0, 1, 2, 3, 3))
        self.assertEqual(kept_by(SIX, ((0, 2),)), (0, 1, 0, 1, 0, 1))
        self.assertEqual(kept_by(SIX, ((5, 2),)), (0, 1, 2, 0, 1, 2))
        self.assertEqual(kept_by(SIX, ((0, 2), (0, 3))), (0,) * 6)

    def test_no_pair(self):
        for machine in [ONE_ROOM, ROUND, HALL, PARTS, EXCHANGE] + list(small_machines()) + wide_machines():
            self.assertEqual(kept_by(machine, ()), all_rooms(machine))

    def test_pairs_of_a_room_and_itself(self):
        for machine in [ONE_ROOM, ROUND, HALL, PARTS, EXCHANGE] + wide_machines():
            alike = tuple((room, room) for room in all_rooms(machine))
            self.assertEqual(kept_by(machine, alike), all_rooms(machine))
            self.assertEqual(kept_by(machine, alike[:1] * 400), all_rooms(machine))

    def test_the_least_of_all_kept_partings(self):
        machines = [HALL, ROUND, PARTS, EXCHANGE, ((0,), (1,), (2,), (3,))] + list(small_machines(3, 2))[::7]
        machines += [made_machine(5, 1 + seed % 2, seed) for seed in range(8)]
        machines += [with_copies(made_machine(2, 2, seed), copied_rooms(2, 5, seed), seed) for seed in range(8)]
        for machine in machines:
            kept = [parting for parting in partings_of(len(machine)) if is_kept_by_hand(machine, parting)]
            pairs = list(product(all_rooms(machine), repeat=2))
            for handed in [(one,) for one in pairs] + [(one, pairs[-at]) for at, one in enumerate(pairs)]:
                told = kept_by(machine, handed)
                due = [parting for parting in kept if has_together(parting, handed)]
                self.assertIn(told, due)
                self.assertTrue(all(has_together(parting, together_in(told)) for parting in due))

    def test_pairs_in_either_order_and_told_several_times(self):
        for seed in range(40):
            machine = made_machine(3 + seed % 24, 1 + seed % 2, seed)
            if seed % 2:
                copied = copied_rooms(3, 20, seed)
                machine = with_copies(made_machine(3, 2, seed), copied, seed)
            pairs = drawn_pairs(len(machine), 1 + seed % 4, seed)
            told = kept_by(machine, pairs)
            turned = tuple((other, one) for one, other in pairs)
            for handed in (turned, pairs[::-1], turned[::-1], pairs * 3, pairs + turned, pairs + pairs[:1] * 100):
                self.assertEqual(kept_by(machine, handed), told)

    def test_it_is_a_kept_parting(self):
        for machine in [ONE_ROOM, ROUND, HALL, PARTS, EXCHANGE, SIX] + list(small_machines()) + wide_machines():
            for seed in range(4):
                pairs = drawn_pairs(len(machine), seed, seed)
                told = kept_by(machine, pairs)
                self.assertTrue(is_parting_by_hand(machine, told))
                self.assertTrue(is_kept_by_hand(machine, told))
                self.assertTrue(has_together(told, pairs))

    def test_400_pairs(self):
        still = tuple((room,) * 6 for room in range(26))
        for machine in wide_machines() + [still]:
            told = kept_by(machine, drawn_pairs(26, 400, 3))
            self.assertEqual(told, (0,) * 26)
            # Pairs of rooms that are both even or both odd.
            pairs = tuple((2 * (one % 13) + at % 2, 2 * (other % 13) + at % 2)
                          for at, (one, other) in enumerate(drawn_pairs(26, 400, 5)))
            told = kept_by(machine, pairs)
            self.assertTrue(is_kept_by_hand(machine, told) and has_together(told, pairs))
        self.assertEqual(kept_by(still, pairs), tuple(room % 2 for room in range(26)))
        self.assertEqual(kept_by(PARITY, pairs), tuple(room % 2 for room in range(26)))
        self.assertEqual(kept_by(still, ((3, 7),) * 400), tuple(room - (room > 6) if room != 7 else 3
                                                               for room in range(26)))

    def test_all_pairs_of_26_rooms(self):
        pairs = tuple(combinations(range(26), 2))
        for machine in wide_machines():
            self.assertEqual(kept_by(machine, pairs), (0,) * 26)

    def test_rooms_that_come_together_by_others(self):
        # Rooms 0 and 1 come together with 2 between; their ways lead on along two chains.
        machine = ((3,), (4,), (5,), (6,), (7,), (8,), (6,), (7,), (8,))
        self.assertEqual(kept_by(machine, ((0, 2), (2, 1))), (0, 0, 0, 1, 1, 1, 2, 2, 2))
        self.assertEqual(kept_by(machine, ((0, 2),)), (0, 1, 0, 2, 3, 2, 4, 5, 4))
        self.assertEqual(kept_by(machine, ((3, 5), (0, 1))), (0, 0, 1, 2, 2, 2, 3, 3, 3))

    def test_a_long_chain(self):
        machine = tuple((min(room + 2, 24 + room % 2),) for room in range(26))
        self.assertEqual(kept_by(machine, ((0, 1),)), tuple(room // 2 for room in range(26)))
        self.assertEqual(kept_by(round_machine(26), ((0, 13),)), (0,) * 26)
        turn = tuple(((room + 1) % 26,) for room in range(26))
        self.assertEqual(kept_by(turn, ((0, 13),)), tuple(room % 13 for room in range(26)))
        self.assertEqual(kept_by(turn, ((4, 9),)), (0,) * 26)
        self.assertEqual(kept_by(WIDE_EXCHANGE, ((0, 13),)), tuple(room % 13 for room in range(26)))

    def test_copies_of_rooms(self):
        for seed in range(20):
            copied = copied_rooms(2 + seed % 9, 12 + seed % 15, seed)
            machine = with_copies(made_machine(2 + seed % 9, 1 + seed % 6, seed), copied, seed)
            pairs = tuple((copied.index(room), at) for at, room in enumerate(copied))
            self.assertEqual(kept_by(machine, pairs), parted(copied))

    def test_called_otherwise(self):
        for seed in range(20):
            copied = copied_rooms(3, 7, seed)
            machine = with_copies(made_machine(3, 2, seed), copied, seed)
            order = (4, 2, 6, 0, 5, 1, 3)
            pairs = drawn_pairs(7, 1 + seed % 2, seed)
            told = kept_by(machine, pairs)
            called = tuple((order.index(one), order.index(other)) for one, other in pairs)
            self.assertEqual(kept_by(renamed(machine, order), called), parted([told[room] for room in order]))


class Folded(unittest.TestCase):
    def test_written_out(self):
        self.assertEqual(folded(PARTS, (0, 0, 0, 1, 1)), ((0, 0), (1, 1)))
        self.assertEqual(folded(PARTS, (0, 0, 0, 1, 2)), ((0, 0), (2, 1), (2, 2)))
        self.assertEqual(folded(SIX, (0, 1, 0, 1, 0, 1)), ((1, 1), (0, 0)))
        self.assertEqual(folded(SIX, (0, 1, 2, 0, 1, 2)), ((1, 0), (2, 1), (0, 2)))

    def test_each_room_alone_and_all_together(self):
        for machine in [ONE_ROOM, ROUND, HALL, PARTS, EXCHANGE] + list(small_machines()) + wide_machines():
            self.assertEqual(folded(machine, all_rooms(machine)), machine)
            self.assertEqual(folded(machine, (0,) * len(machine)), ((0,) * len(machine[0]),))

    def test_rooms_that_are_copies(self):
        for seed in range(26):
            machine = made_machine(1 + seed % 13, 1 + seed % 6, seed)
            copied = copied_rooms(len(machine), len(machine) + seed % 14, seed)
            wide = with_copies(machine, copied, seed)
            self.assertEqual(folded(wide, copied), machine)
            # The last rooms first: classes are numbered as they come, not as they were.
            turned = renamed(wide, tuple(range(len(wide)))[::-1])
            firsts = tuple(dict.fromkeys(copied[::-1]))
            self.assertEqual(folded(turned, parted(copied[::-1])), renamed(machine, firsts))

    def test_words_lead_the_classes_as_they_lead_the_rooms(self):
        machines = [ROUND, HALL, PARTS, SIX] + [made_machine(4, 2, seed) for seed in range(20)]
        for machine in machines + list(small_machines()):
            for parting in partings_of(len(machine)):
                if is_kept_by_hand(machine, parting):
                    narrow = folded(machine, parting)
                    self.assertTrue(is_machine(narrow))
                    self.assertEqual(len(narrow), len(set(parting)))
                    for word in words_of(machine, 2):
                        for room in all_rooms(machine):
                            self.assertEqual(led(narrow, parting[room], word), parting[led(machine, room, word)])

    def test_long_words_and_26_rooms(self):
        for seed in range(8):
            copied = copied_rooms(4 + seed, 26, seed)
            machine = with_copies(made_machine(4 + seed, 6, seed), copied, seed)
            parting = parted(copied)
            narrow, word = folded(machine, parting), made_word(6, 300, seed)
            for end in (0, 1, 7, 300):
                for rooms in ((0,), (3, 11, 25), all_rooms(machine)):
                    classes = tuple(sorted({parting[room] for room in rooms}))
                    left = {parting[room] for room in brought(machine, rooms, word[:end])}
                    self.assertEqual(brought(narrow, classes, word[:end]), tuple(sorted(left)))

    def test_folded_twice(self):
        self.assertEqual(folded(folded(SIX, (0, 1, 2, 0, 1, 2)), (0, 0, 0)), folded(SIX, (0,) * 6))


class PointTwo(unittest.TestCase):
    def asks(self):
        machine = with_copies(made_machine(4, 3, 2), (0, 1, 2, 3, 1, 3, 0), 1)
        return [
            (is_parting, (machine, (0, 1, 2, 3, 1, 3, 0))), (is_parting, (machine, [0, [1], {2: 3}])),
            (is_kept, (machine, (0, 1, 2, 3, 1, 3, 0))), (is_kept, (machine, (0, 0, 1, 1, 2, 2, 3))),
            (kept_by, (machine, ((1, 4), (6, 0), (2, 2)))), (kept_by, (ROUND, ())),
            (folded, (machine, (0, 1, 2, 3, 1, 3, 0))), (folded, (ONE_ROOM, (0,))),
        ]

    def test_what_is_handed_in_is_the_same_behind_the_call(self):
        for asked, handed in self.asks():
            before = deepcopy(handed)
            asked(*handed)
            self.assertEqual(handed, before)

    def test_asked_again_the_same_is_told(self):
        for asked, handed in self.asks():
            self.assertEqual(asked(*handed), asked(*handed))

    def test_all_that_is_told_is_tuples_numbers_and_truths(self):
        for asked, handed in self.asks():
            self.assertTrue(is_told(asked(*handed)))

    def test_nothing_is_taken_out_of_what_is_walked_once(self):
        inner = iter([0, 1, 2])
        for thing in (inner, (inner, 0, 0), (0, inner, 0)):
            self.assertIs(is_parting(HALL, thing), False)
        self.assertEqual(list(inner), [0, 1, 2])


if __name__ == "__main__":
    unittest.main()
