"""Point 3: (a) to (g), over machines and webs of several kinds."""

import unittest
from itertools import combinations, permutations

from bringhome.beats import beats, shows_beats
from bringhome.colourcheck import shows_coloured
from bringhome.colours import coloured
from bringhome.levelcheck import shows_into, shows_least
from bringhome.levels import least_word, levels, word_into
from bringhome.machines import renamed
from bringhome.manycheck import shows_many
from bringhome.paircheck import shows_apart, shows_ladder
from bringhome.pairs import apart, ladder, together
from bringhome.partings import folded, is_kept, kept_by
from bringhome.quick import least_many, quick
from bringhome.sheet import answers
from bringhome.stability import shows_stable, stable, stable_shown
from bringhome.texts import machine_text, read_machine, read_word, word_text
from bringhome.walking import brought, led, walked
from bringhome.webs import closed_parts, web_of
from samples import (
    EXCHANGE, HALL, ONE_ROOM, PARTS, ROUND, Drawn, all_rooms, copied_rooms, goal_by_hand, made_machine, parted,
    round_machine, sets_of, small_machines, strewn_webs, wide_machines, with_copies, words_of,
)

NAMES = tuple("".join(pair) for pair in permutations("zhalbco", 2))[:26]


def machines():
    """Machines of several kinds, of few rooms."""
    copies = [with_copies(made_machine(3, 2, seed), copied_rooms(3, 6, seed), seed) for seed in range(6)]
    exchanged = [with_copies(EXCHANGE, copied_rooms(4, 6, seed), seed) for seed in range(3)]
    made = [made_machine(3 + seed % 4, 1 + seed % 3, seed) for seed in range(16)]
    return [ONE_ROOM, ROUND, HALL, PARTS, EXCHANGE, round_machine(5)] + copies + exchanged + made + list(
        small_machines(3, 2))[::9]


def some_sets(machine):
    """Some sets of a machine, all rooms among them."""
    return sets_of(machine)[::4] + [all_rooms(machine)]


def led_by_hand(machine, room, word):
    """The room to which a word leads, letter by letter."""
    for letter in word:
        room = machine[room][letter]
    return room


class ToldWords(unittest.TestCase):
    """(a) A told word, walked letter by letter, does what is told of it."""

    def test_words_that_leave_few(self):
        for machine in machines():
            for rooms in some_sets(machine):
                for many in (1, 2):
                    told = least_word(machine, rooms, many)
                    if told[0] == "word":
                        self.assertLessEqual(len(goal_by_hand(machine, rooms, told[1])), many)
                        self.assertEqual(walked(machine, rooms, told[1])[-1], goal_by_hand(machine, rooms, told[1]))

    def test_words_into_others(self):
        for machine in machines():
            for goal in some_sets(machine):
                told = word_into(machine, all_rooms(machine), goal)
                if told[0] == "word":
                    self.assertLessEqual(set(goal_by_hand(machine, all_rooms(machine), told[1])), set(goal))

    def test_words_that_bring_two_rooms_together(self):
        for machine in machines() + wide_machines():
            for one, other in list(combinations(all_rooms(machine), 2))[::5]:
                word = together(machine, one, other)
                if word is not None:
                    self.assertEqual(led_by_hand(machine, one, word), led_by_hand(machine, other, word))

    def test_words_that_are_found_quickly(self):
        for machine in machines() + wide_machines():
            rooms = all_rooms(machine)
            word, steps = quick(machine, rooms)
            begun = 0
            for pair, length in steps:
                self.assertLessEqual(set(pair), set(goal_by_hand(machine, rooms, word[:begun])))
                self.assertEqual(len(goal_by_hand(machine, pair, word[begun:length])), 1)
                begun = length
            self.assertEqual(begun, len(word))
            many, word, kept = least_many(machine)
            self.assertEqual(goal_by_hand(machine, rooms, word), kept)
            self.assertEqual(len(kept), many)

    def test_words_that_lead_apart(self):
        for machine in machines() + wide_machines():
            parting, ways = stable_shown(machine)
            pairs = [pair for pair in combinations(all_rooms(machine), 2) if parting[pair[0]] != parting[pair[1]]]
            far = apart(machine)
            for pair, word in zip(pairs, ways):
                self.assertIn(goal_by_hand(machine, pair, word), far)

    def test_words_that_are_written(self):
        for machine in machines():
            rows = "\n".join("room " + row for row in machine_text(machine, NAMES[:len(machine)]).split("\n"))
            home, fast = answers(rows + "\nhome\nquick")
            if home != "none":
                self.assertEqual(len(goal_by_hand(machine, all_rooms(machine), read_word(machine, home))), 1)
            left = goal_by_hand(machine, all_rooms(machine), read_word(machine, fast))
            self.assertEqual(answers(f"{rows}\nbrought {fast}"), (" ".join(NAMES[room] for room in left),))


class NoShorterWord(unittest.TestCase):
    """(b) No shorter word does what a told shortest word does; where none is told, none does: levels show it."""

    def check(self, machine, rooms, is_due, told):
        longest = len(told[1]) - 1 if told[0] == "word" else 5
        for word in words_of(machine, min(longest, 5)):
            self.assertFalse(is_due(goal_by_hand(machine, rooms, word)))

    def test_words_that_leave_few(self):
        for machine in machines():
            for rooms in some_sets(machine)[-3:]:
                for many in (1, 2):
                    told = least_word(machine, rooms, many)
                    self.check(machine, rooms, lambda some: len(some) <= many, told)
                    self.assertIs(shows_least(machine, rooms, many, told), True)

    def test_words_into_others(self):
        for machine in machines():
            for goal in some_sets(machine)[:3]:
                told = word_into(machine, all_rooms(machine), goal)
                self.check(machine, all_rooms(machine), lambda some: set(some) <= set(goal), told)
                self.assertIs(shows_into(machine, all_rooms(machine), goal, told), True)

    def test_what_levels_tell_is_all_there_is(self):
        for machine in machines():
            told = {some for level in levels(machine, all_rooms(machine)) for some in level}
            found = {goal_by_hand(machine, all_rooms(machine), word) for word in words_of(machine, 4)}
            self.assertLessEqual(found, told)


class EachTwoRooms(unittest.TestCase):
    """(c) Of each two rooms either a shortest word is told, or they are told apart, and pairs show both."""

    def test_together_or_apart(self):
        for machine in machines() + wide_machines():
            rungs, far = {pair: many for pair, many, letter in ladder(machine)}, apart(machine)
            self.assertEqual(sorted(list(rungs) + list(far)), list(combinations(all_rooms(machine), 2)))
            for pair in list(rungs)[::7]:
                self.assertEqual(len(together(machine, *pair)), rungs[pair])
            for pair in far[::7]:
                self.assertIsNone(together(machine, *pair))
            self.assertIs(shows_ladder(machine, ladder(machine)), True)
            self.assertIs(shows_apart(machine, far), True)

    def test_no_word_is_shorter_and_none_brings_apart_ones_together(self):
        for machine in machines():
            for pair in combinations(all_rooms(machine), 2):
                told = together(machine, *pair)
                for word in words_of(machine, 4):
                    if told is None or len(word) < len(told):
                        self.assertEqual(len(goal_by_hand(machine, pair, word)), 2)


class HowFew(unittest.TestCase):
    """(d) A word leaves so many rooms, and no two of so many rooms are ever brought together."""

    def test_shown(self):
        for machine in machines() + wide_machines():
            many, word, kept = least_many(machine)
            self.assertLessEqual(set(combinations(kept, 2)), set(apart(machine)))
            self.assertIs(shows_many(machine, (many, word, kept)), True)

    def test_no_word_leaves_fewer(self):
        for machine in machines():
            many = least_many(machine)[0]
            self.assertEqual(min(len(some) for level in levels(machine, all_rooms(machine)) for some in level), many)


class FoldedMachines(unittest.TestCase):
    """(e) Words lead the folded machine as they lead the classes; folded by what is stable, as many rooms are left."""

    def partings(self, machine):
        drawn = Drawn(len(machine))
        pairs = [(drawn.below(len(machine)), drawn.below(len(machine))) for _ in range(3)]
        return [stable(machine)] + [kept_by(machine, tuple(pairs[:many])) for many in range(4)]

    def test_words_lead_the_classes(self):
        for machine in machines() + wide_machines():
            for parting in self.partings(machine):
                self.assertIs(is_kept(machine, parting), True)
                narrow = folded(machine, parting)
                for word in words_of(machine, 2):
                    for room in all_rooms(machine):
                        self.assertEqual(led(narrow, parting[room], word), parting[led_by_hand(machine, room, word)])

    def test_folded_by_what_is_stable(self):
        for machine in machines() + wide_machines():
            narrow = folded(machine, stable(machine))
            self.assertEqual(least_many(narrow)[0], least_many(machine)[0])
            self.assertEqual(stable(narrow), all_rooms(narrow))
            self.assertIs(shows_stable(machine, stable_shown(machine)), True)


class LettersOnWebs(unittest.TestCase):
    """(f) The letters keep the ways; the word leaves as many rooms as the beats come to, and none leaves fewer."""

    def test_told(self):
        for web in strewn_webs():
            machine, word, shown = coloured(web)
            self.assertEqual(web_of(machine), web)
            self.assertEqual(shown, beats(web))
            left = goal_by_hand(machine, all_rooms(web), word)
            self.assertEqual(len(left), sum(beat for part, beat, phases in shown))
            self.assertIs(shows_coloured(web, (machine, word, shown)), True)
            self.assertIs(shows_beats(web, shown), True)

    def test_any_letters_and_any_word(self):
        for machine in machines() + wide_machines():
            many = sum(beat for part, beat, phases in beats(web_of(machine)))
            self.assertGreaterEqual(least_many(machine)[0], many)
        for machine in machines():
            many = sum(beat for part, beat, phases in beats(web_of(machine)))
            for word in words_of(machine, 4):
                self.assertGreaterEqual(len(goal_by_hand(machine, all_rooms(machine), word)), many)


class CalledOtherwise(unittest.TestCase):
    """(g) Where rooms are called otherwise, all is as it was."""

    def turned(self):
        for at, machine in enumerate(machines()):
            order = tuple(Drawn(at).shuffled(all_rooms(machine)))
            yield machine, order, renamed(machine, order)

    def test_words_lead_as_they_did(self):
        for machine, order, other in self.turned():
            for word in words_of(machine, 3):
                for room in all_rooms(machine):
                    self.assertEqual(order[led(other, room, word)], led(machine, order[room], word))
                self.assertEqual(sorted(order[room] for room in brought(other, all_rooms(other), word)),
                                 list(brought(machine, all_rooms(machine), word)))

    def test_shortest_words_are_as_they_were(self):
        for machine, order, other in self.turned():
            for some in some_sets(other):
                own = tuple(sorted(order[room] for room in some))
                self.assertEqual(least_word(other, some, 1)[:-1], least_word(machine, own, 1)[:-1])
                self.assertEqual(word_into(other, all_rooms(other), some)[:-1],
                                 word_into(machine, all_rooms(machine), own)[:-1])
            for pair in combinations(all_rooms(other), 2):
                self.assertEqual(together(other, *pair), together(machine, *(order[room] for room in pair)))

    def test_rooms_are_apart_as_they_were(self):
        for machine, order, other in self.turned():
            self.assertEqual(sorted(tuple(sorted(order[room] for room in pair)) for pair in apart(other)),
                             list(apart(machine)))

    def test_rooms_may_as_well_be_one_as_they_did(self):
        for machine, order, other in self.turned():
            parting = stable(machine)
            self.assertEqual(stable(other), parted([parting[room] for room in order]))

    def test_rooms_lie_in_closed_parts_as_they_did(self):
        for machine, order, other in self.turned():
            parts = sorted((tuple(sorted(order[room] for room in part)), beat)
                           for part, beat, phases in beats(web_of(other)))
            self.assertEqual(parts, [(part, beat) for part, beat, phases in beats(web_of(machine))])
            self.assertEqual(tuple(part for part, beat in parts), closed_parts(web_of(machine)))

    def test_as_few_are_left(self):
        for machine, order, other in self.turned():
            self.assertEqual(least_many(other)[0], least_many(machine)[0])

    def test_what_is_written_is_read_as_it_was(self):
        for machine, order, other in self.turned():
            names = tuple(NAMES[room] for room in order)
            self.assertEqual(read_machine(machine_text(other, names)), (other, names))
            for word in words_of(machine, 2):
                self.assertEqual(read_word(machine, word_text(word)), word)


if __name__ == "__main__":
    unittest.main()
