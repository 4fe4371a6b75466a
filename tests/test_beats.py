"""Point 22, and what point 2 says of its functions."""

import unittest
from copy import deepcopy
from itertools import permutations, product

from bringhome.beats import beats, shows_beats
from bringhome.machines import is_set, relettered, renamed
from bringhome.webs import closed_parts, web_of
from samples import (
    ONE_ROOM, PARITY, Stubborn, all_rooms, changed_in_one_place, goal_by_hand, is_told, made_machine, made_word, nested,
    odd_things, round_machine, small_webs, split_web, strewn_webs, turning_web, wide_machines,
)

# Rooms 0 and 1 lie in no closed part; room 2, rooms 3 and 5, and room 4 do.
STREWN = ((1, 2), (0, 3), (2, 2), (5, 5), (4, 4), (3, 3))
# Ways go round four rooms; room 4 leads in.
FOUR = ((1, 1), (2, 2), (3, 3), (0, 0), (0, 4))
# Two phases: the evens and the odds.
TWO = ((1, 3), (0, 2), (1, 1), (2, 2))
OTHERS = [None, True, False, 0, 1, 2, 3, 4, -1, 1.0, "", "a", (), (0,), (1,), (2,), (0, 0), (0, 1), (1, 0), (0, 2),
          (3, 5), (0, 1, 2), [], [0], {}, 10 ** 30, (True,), ((2,), 1, (0,)), ((3, 5), 2, (0, 1))]


def turn(rooms):
    """The web whose ways go round so many rooms."""
    return tuple(((room + 1) % rooms,) for room in range(rooms))


def phases_by_hand(web, part, beat):
    """Phases of a closed part for a beat, 0 the first room's; None where there are none."""
    phases, due = {part[0]: 0}, [part[0]]
    for room in due:
        for goal in web[room]:
            if goal not in phases:
                phases[goal] = (phases[room] + 1) % beat
                due.append(goal)
            if phases[goal] != (phases[room] + 1) % beat:
                return None
    return tuple(phases[room] for room in part) if set(phases.values()) == set(range(beat)) else None


def beats_by_hand(web):
    """What point 22 says of beats: the greatest number for which there are phases."""
    told = []
    for part in closed_parts(web):
        beat = max(beat for beat in range(1, len(part) + 1) if phases_by_hand(web, part, beat) is not None)
        told.append((part, beat, phases_by_hand(web, part, beat)))
    return tuple(told)


def is_beat_by_hand(web, thing):
    """What point 22 says of a triple that is shown, word by word."""
    if type(thing) is not tuple or len(thing) != 3:
        return False
    part, beat, phases = thing
    if not is_set(web, part) or type(beat) is not int or beat < 1 or type(phases) is not tuple:
        return False
    if len(phases) != len(part) or not all(type(phase) is int and 0 <= phase < beat for phase in phases):
        return False
    # No more numbers than rooms can be there, however great the beat.
    if beat > len(part) or not all(phase in phases for phase in range(beat)):
        return False
    for room, phase in zip(part, phases):
        for goal in web[room]:
            if goal not in part or phases[part.index(goal)] != (phase + 1) % beat:
                return False
    return True


def shows_by_hand(web, told):
    """What point 22 says of what is shown."""
    if type(told) is not tuple or not all(is_beat_by_hand(web, thing) for thing in told):
        return False
    return not any(set(one[0]) & set(other[0]) for one, other in permutations(told, 2))


class Beats(unittest.TestCase):
    def test_written_out(self):
        self.assertEqual(beats(ONE_ROOM), (((0,), 1, (0,)),))
        self.assertEqual(beats(STREWN), (((2,), 1, (0,)), ((3, 5), 2, (0, 1)), ((4,), 1, (0,))))
        self.assertEqual(beats(FOUR), (((0, 1, 2, 3), 4, (0, 1, 2, 3)),))
        self.assertEqual(beats(TWO), (((0, 1, 2, 3), 2, (0, 1, 0, 1)),))
        self.assertEqual(beats(((0, 1), (0, 1))), (((0, 1), 1, (0, 0)),))

    def test_rounds(self):
        for rooms in range(1, 27):
            self.assertEqual(beats(turn(rooms)), ((all_rooms(turn(rooms)), rooms, all_rooms(turn(rooms))),))
            back = tuple(((room - 1) % rooms,) * 3 for room in range(rooms))
            phases = tuple(-room % rooms for room in range(rooms))
            self.assertEqual(beats(back), ((all_rooms(back), rooms, phases),))

    def test_beats_of_one(self):
        for rooms in range(1, 27):
            web = web_of(round_machine(rooms))
            self.assertEqual(beats(web), ((all_rooms(web), 1, (0,) * rooms),))
        # Rounds of two and of three rooms.
        self.assertEqual(beats(((1, 2), (0, 0), (3, 3), (0, 0))), (((0, 1, 2, 3), 1, (0, 0, 0, 0)),))

    def test_the_greatest_beat(self):
        # Rounds of four and of six rooms come by two beats, of four and of eight by four, of six and of three by three.
        for one, other, beat in ((4, 6, 2), (4, 8, 4), (6, 3, 3), (5, 3, 1), (6, 9, 3), (12, 8, 4), (2, 22, 2)):
            rows = [[at + 1, at + 1] for at in range(one - 1)] + [[0, 0]]
            rows += [[at + 1, at + 1] for at in range(one, one + other - 2)] + [[0, 0]]
            rows[0] = [1, one]
            web = tuple(tuple(row) for row in rows)
            (part, told, phases), = beats(web)
            self.assertEqual((part, told, phases[0]), (all_rooms(web), beat, 0))
            self.assertEqual(phases, phases_by_hand(web, part, beat))

    def test_several_parts_and_rooms_outside_of_all(self):
        web = ((1,), (0,), (3,), (4,), (2,), (5,), (0,), (6,))
        self.assertEqual(beats(web), (((0, 1), 2, (0, 1)), ((2, 3, 4), 3, (0, 1, 2)), ((5,), 1, (0,))))
        # Parts that lie crosswise, their rooms not in the order of the ways.
        web = ((4,), (5,), (1,), (0,), (3,), (2,))
        self.assertEqual(beats(web), (((0, 3, 4), 3, (0, 2, 1)), ((1, 2, 5), 3, (0, 2, 1))))

    def test_the_first_room_has_phase_0(self):
        for web in strewn_webs() + list(small_webs()):
            for part, beat, phases in beats(web):
                self.assertEqual(phases[0], 0)

    def test_all_small_webs(self):
        for web in small_webs():
            self.assertEqual(beats(web), beats_by_hand(web))

    def test_all_phases_tried(self):
        for web in list(small_webs(3, 2)) + [STREWN, FOUR, TWO]:
            for part, beat, phases in beats(web):
                for other in range(1, len(part) + 2):
                    found = [tried for tried in product(range(other), repeat=len(part)) if tried[0] == 0 and
                             is_beat_by_hand(web, (part, other, tried))]
                    self.assertLessEqual(len(found), 1)
                    if found:
                        self.assertLessEqual(other, beat)
                    if other == beat:
                        self.assertEqual(found, [phases])

    def test_strewn_webs(self):
        for web in strewn_webs():
            self.assertEqual(beats(web), beats_by_hand(web))

    def test_26_rooms(self):
        webs = [web_of(machine) for machine in wide_machines()]
        webs += [turning_web(26, 6, beat, beat) for beat in range(1, 27)]
        webs += [split_web((5, 7, 1, 3), 10, ways, ways) for ways in range(1, 7)]
        for web in webs:
            self.assertEqual(beats(web), beats_by_hand(web))
        self.assertEqual(beats(web_of(PARITY))[0][1], 1)

    def test_called_otherwise(self):
        for seed, web in enumerate(strewn_webs()):
            order = tuple(range(len(web)))[seed % len(web):] + tuple(range(len(web)))[:seed % len(web)]
            turned = beats(web_of(renamed(web, order)))
            called = sorted((tuple(sorted(order[room] for room in part)), beat) for part, beat, phases in turned)
            self.assertEqual(called, [(part, beat) for part, beat, phases in beats(web)])

    def test_with_any_letters_each_word_leaves_as_many(self):
        for seed, web in enumerate(strewn_webs()):
            many = sum(beat for part, beat, phases in beats(web))
            for letters in list(permutations(range(len(web[0]))))[:3]:
                machine = tuple(relettered((row,), letters)[0] if room % 2 else row for room, row in enumerate(web))
                for length in (0, 1, 5, 60):
                    word = made_word(len(web[0]), length, seed)
                    self.assertGreaterEqual(len(goal_by_hand(machine, all_rooms(web), word)), many)


class ShowsBeats(unittest.TestCase):
    def says(self, answer, web, told):
        self.assertIs(shows_beats(web, told), answer)

    def test_what_beats_tells(self):
        for web in strewn_webs() + list(small_webs()) + [turn(26), turning_web(26, 6, 13, 1)]:
            self.says(True, web, beats(web))

    def test_some_of_them_and_none(self):
        for web in strewn_webs():
            told = beats(web)
            self.says(True, web, ())
            self.says(True, web, told[1:])
            self.says(True, web, told[:-1])
            self.says(True, web, told[:1])

    def test_another_order(self):
        for told in permutations(beats(STREWN)):
            self.says(True, STREWN, told)

    def test_phases_turned_by_a_number(self):
        for web in strewn_webs() + [turn(26)]:
            for part, beat, phases in beats(web):
                for number in range(beat):
                    turned = tuple((phase + number) % beat for phase in phases)
                    self.says(True, web, ((part, beat, turned),))
                self.says(False, web, ((part, beat, tuple(phase + 1 for phase in phases)),))
                if beat > 2:
                    # Turned about, each way leads from a phase to the one ahead.
                    self.says(False, web, ((part, beat, tuple(-phase % beat for phase in phases)),))

    def test_a_beat_that_divides_the_greatest(self):
        for rooms in (4, 6, 12, 24):
            for beat in range(1, 2 * rooms + 2):
                told = ((tuple(range(rooms)), beat, tuple(room % beat for room in range(rooms))),)
                self.says(rooms % beat == 0, turn(rooms), told)
        for web in strewn_webs():
            self.says(True, web, tuple((part, 1, (0,) * len(part)) for part, beat, phases in beats(web)))

    def test_sets_that_no_way_leaves_but_that_are_no_closed_part(self):
        # All rooms at once, with beat 1.
        for web in strewn_webs():
            self.says(True, web, ((all_rooms(web), 1, (0,) * len(web)),))
        # Rooms 4 and 0 to 3: ways lead from room 4 to itself, so they have no beat but 1.
        self.says(True, FOUR, (((0, 1, 2, 3, 4), 1, (0,) * 5),))
        self.says(False, FOUR, (((0, 1, 2, 3, 4), 2, (0, 1, 0, 1, 1)),))
        # A room that leads into a round has a phase, too.
        web = ((1,), (0,), (0,))
        self.says(True, web, (((0, 1, 2), 2, (0, 1, 1)),))
        self.says(False, web, (((0, 1, 2), 2, (0, 1, 0)),))
        # Two closed parts taken as one, with one beat or with one for both.
        web = ((1,), (0,), (3,), (2,))
        for phases in product(range(2), repeat=4):
            right = phases[0] != phases[1] and phases[2] != phases[3]
            self.says(right, web, (((0, 1, 2, 3), 2, phases),))

    def test_sets_that_a_way_leaves(self):
        self.says(False, STREWN, (((0, 1), 1, (0, 0)),))
        self.says(False, STREWN, (((0,), 1, (0,)),))
        self.says(False, turn(4), (((0, 1, 2), 1, (0, 0, 0)),))
        self.says(False, turn(4), (((0, 2), 1, (0, 0)),))
        self.says(False, ((0, 1), (1, 1)), (((0,), 1, (0,)),))
        self.says(True, ((0, 1), (1, 1)), (((1,), 1, (0,)),))

    def test_a_room_in_two_parts(self):
        for web in strewn_webs():
            told = beats(web)
            self.says(False, web, told + told[:1])
            self.says(False, web, told[:1] + told)
            self.says(False, web, told + ((all_rooms(web), 1, (0,) * len(web)),))
        web = ((1,), (0,), (0,))
        self.says(False, web, (((0, 1), 2, (0, 1)), ((0, 1, 2), 2, (0, 1, 1))))

    def test_each_number_comes(self):
        self.says(False, turn(2), (((0, 1), 3, (0, 1)),))
        self.says(False, turn(2), (((0, 1), 4, (0, 1)),))
        self.says(False, ((0,),), (((0,), 2, (0,)),))
        self.says(False, ((0,),), (((0,), 10 ** 1000, (0,)),))
        self.says(False, ((0,),), (((0,), 2, (1,)),))

    def test_beats_below_one(self):
        for beat in (0, -1, -10 ** 30):
            self.says(False, ((0,),), (((0,), beat, (0,)),))
            self.says(False, ((0,),), (((0,), beat, ()),))

    def test_phases_too_many_or_too_few(self):
        for phases in ((), (0,), (0, 1, 0), (0, 1, 0, 1)):
            self.says(False, turn(2), (((0, 1), 2, phases),))

    def test_the_part_is_a_set(self):
        for part, phases in (((), ()), ((1, 0), (1, 0)), ((0, 0, 1), (0, 0, 1)), ((0, 1, 2), (0, 1, 0)),
                             ((-1, 0, 1), (1, 0, 1)), ((0, 1, 1), (0, 1, 1))):
            for beat in (1, 2):
                self.says(False, turn(2), ((part, beat, phases),))
                self.says(False, turn(2), ((part, beat, (0,) * len(part)),))

    def test_all_small_triples(self):
        for web in list(small_webs(2, 2)) + [turn(3), ((0,), (1,), (2,)), ((1,), (0,), (1,))]:
            parts = [(0,), (1,), (0, 1), (1, 0), (0, 2), (1, 2), (0, 1, 2), (2,), ()]
            for part, beat in product(parts, range(5)):
                for phases in product(range(-1, 4), repeat=len(part)):
                    told = ((part, beat, phases),)
                    self.says(shows_by_hand(web, told), web, told)

    def test_otherwise_in_one_place(self):
        for web in (ONE_ROOM, STREWN, FOUR, TWO, turn(3), ((1,), (0,), (0,))):
            for told in changed_in_one_place(beats(web), OTHERS):
                self.says(shows_by_hand(web, told), web, told)

    def test_truths_and_lists(self):
        for told in ((((0,), True, (0,)),), (((False,), 1, (0,)),), (((0,), 1, (False,)),), [((0,), 1, (0,))],
                     ([(0,), 1, (0,)],), (([0], 1, (0,)),), (((0,), 1, [0]),), (((0,), 1.0, (0,)),), ((0, 1, 0),),
                     ((0,), 1, (0,)), (((0,), 1),), (((0,), 1, (0,), 0),), ({0: (0,), 1: 1, 2: (0,)},), ("abc",),
                     (((0,), "1", (0,)),), (((0,), None, (0,)),), iter(beats(ONE_ROOM)), None, 0, True, "", [], {}):
            self.says(False, ONE_ROOM, told)
        self.says(False, turn(2), (((0, True), 2, (0, 1)),))
        self.says(False, turn(2), (((0, 1), 2, (0, True)),))

    def test_anything_else(self):
        for web in (ONE_ROOM, STREWN, turn(2)):
            told = beats(web)
            part, beat, phases = told[0]
            for at, thing in enumerate(odd_things()):
                for shown in (thing, (thing,), told + (thing,), (thing,) + told, ((thing, beat, phases),),
                              ((part, thing, phases),), ((part, beat, thing),), ((part, beat, (thing,) + phases[1:]),),
                              (((thing,) + part[1:], beat, phases),), ((thing, thing, thing),),
                              ((part, beat, thing), 0)):
                    with self.subTest(at=at):
                        self.says(shows_by_hand(web, shown), web, shown)
        for thing in (Stubborn(), (Stubborn(),), ((Stubborn(), 1, (0,)),), (((0,), Stubborn(), (0,)),),
                      (((0,), 1, Stubborn()),), (((0,), 1, (Stubborn(),)),), (((Stubborn(),), 1, (0,)),)):
            self.says(False, ONE_ROOM, thing)

    def test_sixty_deep(self):
        for wrap in (lambda x: (x,), lambda x: (x, 1, (0,)), lambda x: ((0,), 1, x), lambda x: (x, x, x),
                     lambda x: [x]):
            for core in (0, (0,), ((0,), 1, (0,)), None):
                self.says(False, ONE_ROOM, nested(60, wrap, core))


class PointTwo(unittest.TestCase):
    def asks(self):
        web = web_of(made_machine(9, 2, 4))
        return [
            (beats, (web,)), (beats, (STREWN,)), (shows_beats, (web, beats(web))),
            (shows_beats, (STREWN, [[1], {2: 3}])), (shows_beats, (STREWN, ([(2,), 1, [0]],))),
        ]

    def test_what_is_handed_in_is_the_same_behind_the_call(self):
        for asked, handed in self.asks():
            before = deepcopy(handed)
            asked(*handed)
            self.assertEqual(handed, before)

    def test_asked_again_the_same_is_told(self):
        for asked, handed in self.asks():
            self.assertEqual(asked(*handed), asked(*handed))

    def test_all_that_is_told_is_tuples_numbers_and_truths(self):
        for asked, handed in self.asks():
            self.assertTrue(is_told(asked(*handed)))

    def test_nothing_is_taken_out_of_what_is_walked_once(self):
        for wrap in (lambda x: x, lambda x: (x,), lambda x: ((x, 1, (0,)),), lambda x: (((0,), 1, x),)):
            inner = iter([0])
            self.assertIs(shows_beats(ONE_ROOM, wrap(inner)), False)
            self.assertEqual(list(inner), [0])


if __name__ == "__main__":
    unittest.main()
