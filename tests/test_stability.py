"""Points 18 and 19, the second half of (e) of point 3, and what point 2 says of their functions."""

import unittest
from copy import deepcopy
from itertools import combinations, product

from bringhome.levels import levels
from bringhome.machines import relettered, renamed
from bringhome.pairs import apart
from bringhome.partings import folded, is_kept, is_parting
from bringhome.quick import least_many
from bringhome.stability import shows_stable, stable, stable_shown
from bringhome.walking import led
from samples import (
    EXCHANGE, HALL, ONE_ROOM, PARITY, PARTS, ROUND, Stubborn, WIDE_EXCHANGE, all_rooms, changed_in_one_place,
    copied_rooms, goal_by_hand, is_told, made_machine, made_word, nested, odd_things, parted, partings_of,
    round_machine, small_machines, wide_machines, with_copies, words_of,
)

STILL = ((0, 0), (1, 1), (2, 2))
# Rooms 0 and 1 come together by letter 0, but letter 1 leads them to rooms 2 and 3, which stay.
LOST = ((0, 2), (0, 3), (2, 2), (3, 3))
# Letter 0 goes round four rooms; letter 1 leads each to the even one at or ahead of it.
PHASES = ((1, 0), (2, 0), (3, 2), (0, 2))
OTHERS = [None, True, False, 0, 1, 2, -1, 1.0, "", "a", (), (0,), (1,), (0, 1), (1, 1, 0), (0, 0), (2,), ((),),
          ((), ()), (0, 0, 0), (0, 1, 2), [], [0], {}, 10 ** 30, (True,)]


def goals_by_hand(machine, pair):
    """All sets to which words bring a pair, the pair too."""
    return [some for level in levels(machine, pair) for some in level]


def apart_by_hand(machine, pair):
    """Whether no word brings a pair together."""
    return all(len(some) == 2 for some in goals_by_hand(machine, pair))


def stable_by_hand(machine):
    """What point 18 says, pair by pair."""
    far = {pair for pair in combinations(all_rooms(machine), 2) if apart_by_hand(machine, pair)}
    marks = []
    for room in all_rooms(machine):
        marks.append(min([one for one in range(room) if not far & set(goals_by_hand(machine, (one, room)))] + [room]))
    return parted(marks)


def way_by_hand(machine, pair):
    """The first of the shortest words that lead a pair to one that is apart."""
    seen, words = {pair}, [((), pair)]
    for word, here in words:
        if len(here) == 2 and apart_by_hand(machine, here):
            return word
        for letter in range(len(machine[0])):
            goal = goal_by_hand(machine, here, (letter,))
            if goal not in seen:
                seen.add(goal)
                words.append((word + (letter,), goal))
    return None


def across(parting):
    """The pairs of rooms that a parting has not together, rising."""
    return [(one, other) for one, other in combinations(range(len(parting)), 2) if parting[one] != parting[other]]


def shows_by_hand(machine, told):
    """What point 19 says, word by word."""
    if type(told) is not tuple or len(told) != 2 or not is_parting(machine, told[0]) or not is_kept(machine, told[0]):
        return False
    parting, ways = told
    pairs = across(parting)
    if type(ways) is not tuple or len(ways) != len(pairs):
        return False
    for pair, word in zip(pairs, ways):
        if type(word) is not tuple:
            return False
        if not all(type(letter) is int and 0 <= letter < len(machine[0]) for letter in word):
            return False
        goal = goal_by_hand(machine, pair, word)
        if len(goal) == 1 or not apart_by_hand(machine, goal):
            return False
    return not any(apart_by_hand(machine, pair) for pair in combinations(all_rooms(machine), 2) if pair not in pairs)


def machines():
    """Machines of several kinds, of few rooms."""
    made = [made_machine(2 + seed % 6, 1 + seed % 3, seed) for seed in range(40)]
    copies = [with_copies(made_machine(3, 2, seed), copied_rooms(3, 7, seed), seed) for seed in range(20)]
    return [ONE_ROOM, ROUND, HALL, PARTS, EXCHANGE, STILL, LOST, PHASES] + list(small_machines()) + made + copies


class Stable(unittest.TestCase):
    def test_written_out(self):
        self.assertEqual(stable(PARTS), (0, 0, 0, 1, 1))
        self.assertEqual(stable(LOST), (0, 1, 0, 2))
        self.assertEqual(stable(((0,), (0,), (0,))), (0, 0, 0))
        self.assertEqual(stable(((1,), (0,), (1,))), (0, 1, 0))

    def test_one_room(self):
        for letters in range(1, 7):
            self.assertEqual(stable(((0,) * letters,)), (0,))

    def test_machines_that_a_word_brings_to_one_room(self):
        for machine in [ROUND, HALL] + [round_machine(rooms) for rooms in range(1, 27)]:
            self.assertEqual(stable(machine), (0,) * len(machine))
        for machine in machines() + wide_machines():
            if least_many(machine)[0] == 1:
                self.assertEqual(stable(machine), (0,) * len(machine))

    def test_letters_that_only_exchange_rooms(self):
        turns = [tuple(((room + 1) % rooms, (room + 2) % rooms) for room in range(rooms)) for rooms in range(1, 27)]
        for machine in [EXCHANGE, STILL, WIDE_EXCHANGE] + turns:
            self.assertEqual(stable(machine), all_rooms(machine))

    def test_rooms_that_come_together_but_not_behind_each_word(self):
        self.assertNotIn((0, 1), apart(LOST))
        self.assertNotEqual(stable(LOST)[0], stable(LOST)[1])
        # Letter 2 leads the pair home, whatever was ahead, as long as letter 1 leads back.
        self.assertEqual(stable(((0, 2, 0), (0, 3, 0), (2, 0, 2), (3, 1, 3))), (0, 0, 1, 1))

    def test_phases(self):
        self.assertEqual(stable(PARITY), tuple(room % 2 for room in range(26)))
        self.assertEqual(stable(PHASES), stable_by_hand(PHASES))

    def test_rooms_whose_ways_are_alike_are_together(self):
        for seed in range(30):
            machine = made_machine(2 + seed % 6, 1 + seed % 3, seed)
            twins = machine + machine
            told = stable(twins)
            self.assertEqual(told[:len(machine)], told[len(machine):])
            self.assertEqual(told[:len(machine)], stable(machine))

    def test_copies_that_never_meet_are_apart(self):
        for machine in (ROUND, HALL, PARTS, EXCHANGE):
            many = len(machine)
            twice = machine + tuple(tuple(goal + many for goal in row) for row in machine)
            told = stable(machine)
            self.assertEqual(stable(twice), told + tuple(number + max(told) + 1 for number in told))

    def test_pair_by_pair(self):
        for machine in machines():
            self.assertEqual(stable(machine), stable_by_hand(machine))

    def test_pair_by_pair_with_26_rooms(self):
        copies = [with_copies(made_machine(5, 6, seed), copied_rooms(5, 26, seed), seed) for seed in range(2)]
        for machine in [PARITY, WIDE_EXCHANGE] + copies:
            self.assertEqual(stable(machine), stable_by_hand(machine))

    def test_it_is_kept(self):
        for machine in machines() + wide_machines():
            told = stable(machine)
            self.assertIs(is_parting(machine, told), True)
            self.assertIs(is_kept(machine, told), True)

    def test_folded_by_it(self):
        copies = [with_copies(made_machine(5 + seed, 6, seed), copied_rooms(5 + seed, 26, seed), seed)
                  for seed in range(10)]
        exchanged = [with_copies(EXCHANGE, copied_rooms(4, 20, seed), seed) for seed in range(10)]
        for machine in machines() + wide_machines() + copies + exchanged:
            narrow = folded(machine, stable(machine))
            self.assertEqual(stable(narrow), all_rooms(narrow))
            self.assertEqual(least_many(narrow)[0], least_many(machine)[0])

    def test_called_otherwise_the_same_rooms_are_together(self):
        order = (4, 2, 6, 0, 5, 1, 3)
        for seed in range(30):
            machine = with_copies(made_machine(3, 2, seed), copied_rooms(3, 7, seed), seed)
            told = stable(machine)
            self.assertEqual(stable(renamed(machine, order)), parted([told[room] for room in order]))

    def test_letters_called_otherwise(self):
        for machine in machines():
            if len(machine[0]) == 2:
                for letters in ((1, 0), (0, 1, 0), (1, 1, 0, 0)):
                    self.assertEqual(stable(relettered(machine, letters)), stable(machine))


class StableShown(unittest.TestCase):
    def test_written_out(self):
        self.assertEqual(stable_shown(ONE_ROOM), ((0,), ()))
        self.assertEqual(stable_shown(HALL), ((0, 0, 0), ()))
        self.assertEqual(stable_shown(STILL), ((0, 1, 2), ((), (), ())))
        self.assertEqual(stable_shown(LOST), ((0, 1, 0, 2), ((1,), (), (1,), (0,), ())))
        self.assertEqual(stable_shown(PARTS), ((0, 0, 0, 1, 1), ((),) * 6))

    def test_the_order_of_the_pairs(self):
        # Each pair with room 0 needs a word of its own; the chain leads on to two rooms that stay.
        machine = ((1, 5), (2, 5), (3, 5), (4, 5), (4, 4), (5, 5))
        parting, ways = stable_shown(machine)
        self.assertEqual(parting, stable_by_hand(machine))
        self.assertEqual(list(ways), [way_by_hand(machine, pair) for pair in across(parting)])

    def test_of_several_the_first_as_tuples_rise(self):
        # Letters 1 and 2 both lead rooms 0 and 1 apart, letter 0 brings them together.
        machine = ((0, 2, 3), (0, 3, 2), (2, 2, 2), (3, 3, 3))
        self.assertEqual(stable_shown(machine)[1][0], (1,))
        machine = relettered(machine, (2, 0, 1))
        self.assertEqual(stable_shown(machine)[1][0], (0,))
        # The first letter is decided ahead of the second.
        machine = ((4, 2, 0), (4, 3, 1), (5, 4, 4), (6, 4, 4), (4, 4, 4), (5, 5, 5), (6, 6, 6))
        self.assertEqual(stable_shown(machine)[1][0], (1, 0))
        self.assertEqual(way_by_hand(machine, (0, 1)), (1, 0))

    def test_a_longer_word_that_stands_ahead_is_not_taken(self):
        # The word (0, 0) rises ahead of (1,), but is longer.
        machine = ((2, 4), (3, 5), (4, 2), (5, 2), (4, 4), (5, 5))
        self.assertEqual(stable_shown(machine)[1][0], (1,))

    def test_word_by_word(self):
        for machine in machines():
            parting, ways = stable_shown(machine)
            self.assertEqual(parting, stable_by_hand(machine))
            self.assertEqual(list(ways), [way_by_hand(machine, pair) for pair in across(parting)])

    def test_no_word_of_all_words_is_shorter_or_ahead(self):
        for machine in [LOST, PARTS, PHASES] + [made_machine(5, 2, seed) for seed in range(20)]:
            parting, ways = stable_shown(machine)
            far = apart(machine)
            for pair, told in zip(across(parting), ways):
                found = [word for word in words_of(machine, 5) if goal_by_hand(machine, pair, word) in far]
                if len(told) <= 5:
                    self.assertEqual(told, found[0])
                else:
                    self.assertEqual(found, [])

    def test_long_words(self):
        # Two rows of rooms side by side; letter 0 leads on to their ends, which stay, letter 1 brings both to a sink.
        rooms = 12
        sink = 2 * rooms
        machine = tuple((min(room + 2, sink - 2 + room % 2), sink if room < sink - 2 else room) for room in range(sink))
        machine += ((sink, sink),)
        parting, ways = stable_shown(machine)
        ways = dict(zip(across(parting), ways))
        for at in range(rooms):
            self.assertEqual(ways[(2 * at, 2 * at + 1)], (0,) * (rooms - 1 - at))

    def test_26_rooms(self):
        copies = [with_copies(made_machine(5, 6, seed), copied_rooms(5, 26, seed), seed) for seed in range(3)]
        for machine in wide_machines() + copies + [made_machine(26, 1, seed) for seed in range(3)]:
            parting, ways = stable_shown(machine)
            far = apart(machine)
            self.assertEqual(parting, stable(machine))
            self.assertEqual(len(ways), len(across(parting)))
            for (one, other), word in zip(across(parting), ways):
                goals = led(machine, one, word), led(machine, other, word)
                self.assertIn((min(goals), max(goals)), far)
            self.assertIs(shows_stable(machine, (parting, ways)), True)


class ShowsStable(unittest.TestCase):
    def says(self, answer, machine, told):
        self.assertIs(shows_stable(machine, told), answer)

    def test_what_stable_shown_tells(self):
        for machine in machines() + wide_machines():
            self.says(True, machine, stable_shown(machine))

    def test_other_words(self):
        for machine in (LOST, PARTS, PHASES, STILL, EXCHANGE, made_machine(5, 2, 3)):
            parting, ways = stable_shown(machine)
            for tail in ((0,), (1,), (1, 0, 1), made_word(2, 4000, 2)):
                # Behind a word that leads apart each word leads apart.
                self.says(True, machine, (parting, tuple(word + tail for word in ways)))
                for at in range(len(ways)):
                    self.says(True, machine, (parting, ways[:at] + (ways[at] + tail,) + ways[at + 1:]))

    def test_all_short_words_in_each_place(self):
        for machine in (LOST, PARTS, PHASES, made_machine(4, 2, 5)):
            parting, ways = stable_shown(machine)
            for at in range(len(ways)):
                for word in words_of(machine, 4):
                    told = (parting, ways[:at] + (word,) + ways[at + 1:])
                    self.says(shows_by_hand(machine, told), machine, told)

    def test_words_that_bring_together_or_not_far_enough(self):
        parting, ways = stable_shown(LOST)
        self.says(False, LOST, (parting, ((0,),) + ways[1:]))
        self.says(False, LOST, (parting, ((),) + ways[1:]))
        self.says(True, LOST, (parting, ((1, 0),) + ways[1:]))

    def test_a_word_too_many_or_too_few(self):
        for machine in (ONE_ROOM, HALL, LOST, PARTS, STILL, EXCHANGE):
            parting, ways = stable_shown(machine)
            for other in (ways + ((),), ((),) + ways, ways + ((0,),), ways + ways[:1] if ways else ((),)):
                self.says(False, machine, (parting, other))
            if ways:
                for at in range(len(ways)):
                    self.says(False, machine, (parting, ways[:at] + ways[at + 1:]))
                self.says(False, machine, (parting, ()))

    def test_words_in_another_order(self):
        parting, ways = stable_shown(LOST)
        self.says(False, LOST, (parting, ways[::-1]))
        self.says(False, LOST, (parting, ways[2:] + ways[:2]))

    def test_all_other_partings(self):
        for machine in machines()[:60] + machines()[-60:]:
            if len(machine) > 5:
                continue
            right = stable(machine)
            for parting in partings_of(len(machine)):
                ways = tuple(way_by_hand(machine, pair) or () for pair in across(parting))
                self.says(parting == right, machine, (parting, ways))

    def test_a_kept_parting_that_has_too_few_or_too_many_together(self):
        self.says(False, STILL, ((0, 0, 0), ()))
        self.says(False, STILL, ((0, 0, 1), ((), ())))
        self.says(False, PARTS, ((0, 0, 0, 0, 0), ()))
        self.says(False, PARTS, ((0, 1, 2, 3, 4), ((),) * 10))
        self.says(False, HALL, ((0, 1, 2), ((), (), ())))
        # Kept, and each pair across is shown apart, but rooms 3 and 4 come together.
        self.says(True, PARTS, ((0, 0, 0, 1, 1), ((),) * 6))
        self.says(False, PARTS, ((0, 0, 0, 1, 2), ((),) * 7))

    def test_a_parting_that_is_not_kept(self):
        # Each pair that it has together can be brought together, each other one is led apart, but it is not kept.
        self.says(False, LOST, ((0, 0, 0, 1), ((), (0,), ())))
        for parting in partings_of(4):
            for ways in product(((), (0,), (1,)), repeat=len(across(parting))):
                told = (parting, ways)
                self.says(shows_by_hand(LOST, told), LOST, told)

    def test_pairs_are_brought_together_by_any_word(self):
        for rooms in (2, 5, 26):
            self.says(True, round_machine(rooms), ((0,) * rooms, ()))

    def test_otherwise_in_one_place(self):
        for machine in (ONE_ROOM, HALL, LOST, PARTS, STILL, PHASES):
            for told in changed_in_one_place(stable_shown(machine), OTHERS):
                self.says(shows_by_hand(machine, told), machine, told)

    def test_truths_and_lists(self):
        parting, ways = stable_shown(LOST)
        for told in ([parting, ways], (list(parting), ways), (parting, list(ways)),
                     (parting, (list(ways[0]),) + ways[1:]),
                     (parting, ((True,),) + ways[1:]), ((False,) + parting[1:], ways), ((0, True, 0, 2), ways),
                     (parting, ("b",) + ways[1:]), (parting, ((2,),) + ways[1:]), (parting, ((-1,),) + ways[1:]),
                     (parting, ways, ()), (parting,), (ways, parting), (), (parting, iter(ways)), {0: parting, 1: ways},
                     (parting, (None,) + ways[1:]), (parting, ((1.0,),) + ways[1:]), (parting, dict(enumerate(ways)))):
            self.says(False, LOST, told)

    def test_anything_else(self):
        for machine in (ONE_ROOM, HALL, LOST):
            parting, ways = stable_shown(machine)
            for at, thing in enumerate(odd_things()):
                for told in (thing, (thing,), (thing, thing), (thing, ways), (parting, thing), (parting, (thing,)),
                             (parting, (thing,) + ways[1:]), (parting, ways, thing), (parting, ((thing,),) + ways[1:]),
                             (parting, ways[:-1] + (thing,)), ((thing,) + parting[1:], ways)):
                    with self.subTest(at=at):
                        self.assertIs(shows_stable(machine, told), shows_by_hand(machine, told))
        for thing in (None, 0, True, "", "ab", [], {}, Stubborn(), (Stubborn(), ()), ((0, 0, 0), Stubborn())):
            self.says(False, HALL, thing)

    def test_sixty_deep(self):
        for wrap in (lambda x: (x,), lambda x: (x, x), lambda x: ((0, 0, 0), x), lambda x: (x, ()), lambda x: [x]):
            for core in (0, (), (0, 0, 0), None):
                self.says(False, HALL, nested(60, wrap, core))


class PointTwo(unittest.TestCase):
    def asks(self):
        machine = with_copies(made_machine(4, 3, 2), (0, 1, 2, 3, 1, 3, 0), 1)
        return [
            (stable, (machine,)), (stable, (LOST,)), (stable_shown, (machine,)), (stable_shown, (LOST,)),
            (shows_stable, (LOST, stable_shown(LOST))), (shows_stable, (LOST, [[0], {1: [2]}])),
            (shows_stable, (machine, list(stable_shown(machine)))),
        ]

    def test_what_is_handed_in_is_the_same_behind_the_call(self):
        for asked, handed in self.asks():
            before = deepcopy(handed)
            asked(*handed)
            self.assertEqual(handed, before)

    def test_asked_again_the_same_is_told(self):
        for asked, handed in self.asks():
            self.assertEqual(asked(*handed), asked(*handed))

    def test_all_that_is_told_is_tuples_numbers_and_truths(self):
        for asked, handed in self.asks():
            self.assertTrue(is_told(asked(*handed)))

    def test_nothing_is_taken_out_of_what_is_walked_once(self):
        for wrap in (lambda x: x, lambda x: (x, ()), lambda x: ((0, 1, 0, 2), x), lambda x: ((0, 1, 0, 2), (x,) * 5)):
            inner = iter([0, 1])
            self.assertIs(shows_stable(LOST, wrap(inner)), False)
            self.assertEqual(list(inner), [0, 1])


if __name__ == "__main__":
    unittest.main()
