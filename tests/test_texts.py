"""Points 7 and 8, and what point 2 says of their functions."""

import unittest
from itertools import product

from bringhome.errors import HomeError, NoMachine, NoWord
from bringhome.machines import renamed
from bringhome.texts import is_name, machine_text, read_machine, read_word, word_text
from samples import (
    HALL, ONE_ROOM, PARTS, ROUND, Stubborn, is_told, made_machine, made_word, odd_things, round_machine,
    small_machines, words_of,
)

ALPHABET = "abcdefghijklmnopqrstuvwxyz"
HOUSE = "hall cellar hall\ncellar attic hall\nattic attic attic"
HOUSE_READ = (((1, 0), (2, 0), (2, 2)), ("hall", "cellar", "attic"))


def made_names(many):
    """So many unlike names, of all lengths there are, not in the order of the alphabet."""
    return tuple((ALPHABET[::-1][at % 26] * (1 + at % 8) + (ALPHABET[at // 26] if at >= 26 else ""))[-8:]
                 for at in range(many))


def rows_of(many, letters=1):
    """The rows of a text of so many rooms, each of which leads to itself."""
    return [" ".join([name] * (letters + 1)) for name in ["r" + ALPHABET[at // 26] + ALPHABET[at % 26]
                                                          for at in range(many)]]


class IsName(unittest.TestCase):
    def test_names(self):
        for thing in ["a", "z", "m", "hall", "cellar", "abcdefgh", "zzzzzzzz", "name", "count", "room", "none"]:
            self.assertIs(is_name(thing), True, thing)
        for sign in ALPHABET:
            self.assertIs(is_name(sign), True)
            for many in range(1, 9):
                self.assertIs(is_name(sign * many), True)

    def test_lengths(self):
        for thing in ["", "abcdefghi", "a" * 9, "a" * 8000]:
            self.assertIs(is_name(thing), False)

    def test_each_other_sign_in_each_place(self):
        others = [chr(code) for code in range(0x250) if chr(code) not in ALPHABET]
        others += ["\u0430", "\u017f", "\u212a", "\uff41", "\u00aa", "\u02b0", "\U0001d41a", "\ud800"]
        for sign in others:
            for thing in (sign, sign + "hall", "hall" + sign, "ha" + sign + "ll", sign * 8):
                self.assertIs(is_name(thing), False, ascii(thing))

    def test_neighbours_of_the_letters(self):
        for thing in ["`", "{", "A", "Z", "Hall", "halL", "hall ", " hall", "ha ll", "hall\n", "\n", "room1", "a-b",
                      "-"]:
            self.assertIs(is_name(thing), False, ascii(thing))

    def test_anything_else(self):
        names = ("a", "hall")
        for at, thing in enumerate(odd_things()):
            with self.subTest(at=at):
                self.assertIs(is_name(thing), type(thing) is str and thing in names)
        for thing in [b"hall", bytearray(b"hall"), ["hall"], ("hall",), ["h", "a"], ("h", "a"), {"h": "a"}, {"a"},
                      frozenset("a"), Stubborn(), iter("hall"), str, 8, True]:
            self.assertIs(is_name(thing), False)


class Read(unittest.TestCase):
    def test_written_out(self):
        self.assertEqual(read_machine(HOUSE), HOUSE_READ)
        self.assertEqual(read_machine("a a"), (((0,),), ("a",)))
        self.assertEqual(read_machine("b a\na b"), (((1,), (0,)), ("b", "a")))

    def test_rooms_have_the_order_of_the_rows(self):
        self.assertEqual(read_machine("z b z\nb a b\na z a"), (((1, 0), (2, 1), (0, 2)), ("z", "b", "a")))

    def test_blanks_more_than_needed(self):
        for text in ["  hall cellar hall\ncellar attic hall\nattic attic attic",
                     "hall cellar hall   \ncellar attic hall \nattic attic attic    ",
                     "hall    cellar  hall\ncellar  attic hall\nattic attic     attic",
                     "  hall  cellar  hall  \n  cellar  attic  hall  \n  attic  attic  attic  "]:
            self.assertEqual(read_machine(text), HOUSE_READ)

    def test_rows_without_words_are_passed_over(self):
        for text in ["\n" + HOUSE, HOUSE + "\n", "\n\n\n" + HOUSE + "\n\n", HOUSE.replace("\n", "\n\n"),
                     HOUSE.replace("\n", "\n   \n"), "   \n" + HOUSE + "\n ", HOUSE.replace("\n", " \n \n\n ")]:
            self.assertEqual(read_machine(text), HOUSE_READ)

    def test_a_name_may_be_any_word_of_the_program(self):
        self.assertEqual(read_machine("none room\nroom none"), (((1,), (0,)), ("none", "room")))
        self.assertEqual(read_machine("name count\ncount twice\ntwice many\nmany name")[0], ((1,), (2,), (3,), (0,)))

    def test_one_to_six_letters(self):
        for letters in range(1, 7):
            self.assertEqual(read_machine("a" + " a" * letters), (((0,) * letters,), ("a",)))

    def test_twenty_six_rooms(self):
        machine, names = read_machine("\n".join(rows_of(26, 6)))
        self.assertEqual(machine, tuple((room,) * 6 for room in range(26)))
        self.assertEqual(len(names), 26)
        self.assertEqual(read_machine("\n\n" + "\n\n".join(rows_of(26)) + "\n\n\n")[0],
                         tuple((room,) for room in range(26)))

    def test_long_texts(self):
        self.assertEqual(read_machine("a" + " " * 7998 + "a"), (((0,),), ("a",)))
        self.assertEqual(read_machine("\n" * 7997 + "a a"), (((0,),), ("a",)))

    def test_built_of_tuples(self):
        told = read_machine(HOUSE)
        self.assertTrue(is_told(told))
        self.assertEqual(told, read_machine(HOUSE))


class Refused(unittest.TestCase):
    def refuses(self, text, row, word):
        with self.assertRaises(NoMachine) as taken:
            read_machine(text)
        self.assertEqual((taken.exception.row, taken.exception.word), (row, word), text)
        self.assertIs(type(taken.exception.row), int)
        self.assertIsInstance(taken.exception, HomeError)

    def test_name(self):
        for bad in ["Hall", "hall1", "abcdefghi", "a-b", "-", "A", "~", "a.", "0", "#", "'a'"]:
            self.refuses(f"{bad} a\na a", 0, "name")
            self.refuses(f"a {bad}\nb a", 0, "name")
            self.refuses(f"a a\n{bad} a", 1, "name")
            self.refuses(f"a a\nb {bad}", 1, "name")
            self.refuses(f"a a\nb a\n\n  \nc {bad}", 4, "name")
        self.refuses("a a b c d e F\nb", 0, "name")

    def test_count_no_letter(self):
        self.refuses("a", 0, "count")
        self.refuses("a\nb", 0, "count")
        self.refuses("\n  a  \nb a", 1, "count")
        self.refuses("a a\nb", 1, "count")

    def test_count_more_than_six(self):
        self.refuses("a" + " a" * 7, 0, "count")
        self.refuses("a" + " a" * 7 + "\nb" + " a" * 7, 0, "count")
        self.refuses("a" + " a" * 100, 0, "count")
        self.refuses("a" + " a" * 6 + "\nb" + " a" * 7, 1, "count")

    def test_count_unlike_the_first_row_with_words(self):
        self.refuses("a a a\nb b", 1, "count")
        self.refuses("a a\nb b b", 1, "count")
        self.refuses("\n \na a a\n\nb b b\n\nc c", 6, "count")
        # The third row is as long as the second one, which is refused already.
        self.refuses("a a a\nb b\nc c", 1, "count")
        self.refuses("a a\nb b\nc c c\nd d d", 2, "count")

    def test_twice(self):
        self.refuses("a a\na a", 1, "twice")
        self.refuses("a a\nb a\na b", 2, "twice")
        self.refuses("a b\nb a\nc c\nb b", 3, "twice")
        self.refuses("\na b\n\nb a\n\n\na b\nb a", 6, "twice")

    def test_a_name_twice_behind_the_first_word_is_no_fault(self):
        self.assertEqual(read_machine("a a a\nb a a")[0], ((0, 0), (0, 0)))

    def test_many(self):
        self.refuses("\n".join(rows_of(27)), 26, "many")
        self.refuses("\n".join(rows_of(40)), 26, "many")
        self.refuses("\n\n" + "\n".join(rows_of(27)), 28, "many")
        self.refuses("\n \n".join(rows_of(28)), 52, "many")

    def test_room(self):
        self.refuses("a b", 0, "room")
        self.refuses("a a b\nc a c", 0, "room")
        self.refuses("a a\nb c", 1, "room")
        self.refuses("a a\n\nb b\nc d\nd e", 4, "room")
        self.refuses("a a\nb b\nc x\nd y", 2, "room")

    def test_a_room_may_have_its_row_behind(self):
        self.assertEqual(read_machine("a b\nb a")[0], ((1,), (0,)))
        self.assertEqual(read_machine("a c\nb a\nc b")[0], ((2,), (0,), (1,)))

    def test_none(self):
        self.refuses("", 1, "none")
        self.refuses(" ", 1, "none")
        self.refuses("      ", 1, "none")
        self.refuses("\n", 2, "none")
        self.refuses("\n\n\n", 4, "none")
        self.refuses(" \n  \n", 3, "none")
        self.refuses("\n" * 7999, 8000, "none")

    def test_the_first_row_at_fault_is_due(self):
        self.refuses("a a\nb\nC c\na a", 1, "count")
        self.refuses("a a\na a\nb\nC", 1, "twice")
        self.refuses("a a\nC c\nb\na a", 1, "name")
        self.refuses("\n".join(rows_of(27) + ["X", "y", "raa raa"]), 26, "many")
        self.refuses("\n".join(rows_of(26)[:25] + ["raa raa"] + rows_of(30)[26:]), 25, "twice")

    def test_which_of_several_in_one_row_is_due(self):
        self.refuses("A", 0, "name")
        self.refuses("a a\nA", 1, "name")
        self.refuses("a a\na A", 1, "name")
        self.refuses("a a\na A a", 1, "name")
        self.refuses("a a\na", 1, "count")
        self.refuses("a a\na a a", 1, "count")
        rows = rows_of(26)
        self.refuses("\n".join(rows + ["raa Raa raa"]), 26, "name")
        self.refuses("\n".join(rows + ["new Raa"]), 26, "name")
        self.refuses("\n".join(rows + ["raa raa raa"]), 26, "count")
        self.refuses("\n".join(rows + ["new raa raa"]), 26, "count")
        self.refuses("\n".join(rows + ["raa raa"]), 26, "twice")
        self.refuses("\n".join(rows + ["new nowhere"]), 26, "many")

    def test_an_unknown_room_is_due_behind_all_rows(self):
        self.refuses("a x\nb b\nB b", 2, "name")
        self.refuses("a x\nb b\nb", 2, "count")
        self.refuses("a x\nb b\na a", 2, "twice")
        self.refuses("\n".join(["first nowhere"] + rows_of(26)), 26, "many")
        self.refuses("a x\nb b", 0, "room")

    def test_refused_again_the_same(self):
        for text in ("a", "a a\na a", "", "a b", "A b"):
            told = []
            for _ in range(2):
                with self.assertRaises(NoMachine) as taken:
                    read_machine(text)
                told.append((taken.exception.row, taken.exception.word))
            self.assertEqual(told[0], told[1])


class Written(unittest.TestCase):
    def test_written_out(self):
        self.assertEqual(machine_text(*HOUSE_READ), HOUSE)
        self.assertEqual(machine_text(ONE_ROOM, ("a",)), "a a")
        self.assertEqual(machine_text(((1, 0), (1, 1)), ("zz", "b")), "zz b zz\nb b b")

    def test_read_it_is_the_same_pair(self):
        machines = [ONE_ROOM, ROUND, HALL, PARTS, ((0,) * 6,), made_machine(26, 6, 1), made_machine(26, 1, 2)]
        machines += [made_machine(1 + seed, 1 + seed % 6, seed) for seed in range(26)] + list(small_machines())
        for machine in machines:
            names = made_names(len(machine))
            self.assertEqual(len(set(names)), len(machine))
            self.assertEqual(read_machine(machine_text(machine, names)), (machine, names))

    def test_a_row_for_each_room_and_one_blank(self):
        for seed in range(10):
            machine = made_machine(3 + seed, 1 + seed % 6, seed)
            names = made_names(len(machine))
            rows = machine_text(machine, names).split("\n")
            self.assertEqual(rows, [" ".join([names[at]] + [names[goal] for goal in row])
                                    for at, row in enumerate(machine)])

    def test_what_is_read_and_written_is_as_it_was(self):
        for text in (HOUSE, "a a", "b a\na b"):
            self.assertEqual(machine_text(*read_machine(text)), text)

    def test_called_otherwise_the_rows_stand_otherwise(self):
        machine, names, order = made_machine(7, 3, 2), made_names(7), (3, 6, 0, 1, 5, 2, 4)
        text = machine_text(renamed(machine, order), tuple(names[room] for room in order))
        rows = machine_text(machine, names).split("\n")
        self.assertEqual(text.split("\n"), [rows[room] for room in order])

    def test_same_behind_the_call(self):
        machine, names = made_machine(5, 2, 1), made_names(5)
        self.assertEqual(machine_text(machine, names), machine_text(machine, names))
        self.assertEqual((machine, names), (made_machine(5, 2, 1), made_names(5)))


class Words(unittest.TestCase):
    def refuses(self, machine, text):
        with self.assertRaises(NoWord) as taken:
            read_word(machine, text)
        self.assertIsInstance(taken.exception, HomeError)

    def test_written_out(self):
        self.assertEqual(word_text(()), "-")
        self.assertEqual(word_text((0,)), "a")
        self.assertEqual(word_text((1, 0, 2, 2)), "bacc")
        self.assertEqual(word_text((5, 4, 3)), "fed")

    def test_letters_to_25(self):
        self.assertEqual(word_text(tuple(range(26))), ALPHABET)
        for letter, sign in enumerate(ALPHABET):
            self.assertEqual(word_text((letter,)), sign)

    def test_read_out(self):
        self.assertEqual(read_word(HALL, "-"), ())
        self.assertEqual(read_word(HALL, "a"), (0,))
        self.assertEqual(read_word(HALL, "bacc"), (1, 0, 2, 2))
        self.assertEqual(read_word(ONE_ROOM, "aaa"), (0, 0, 0))
        self.assertEqual(read_word(made_machine(26, 6, 1), "fedcba"), (5, 4, 3, 2, 1, 0))

    def test_each_word_written_and_read(self):
        for machine in (ONE_ROOM, ROUND, HALL, made_machine(4, 6, 1)):
            for word in words_of(machine, 3):
                told = read_word(machine, word_text(word))
                self.assertEqual(told, word)
                self.assertTrue(is_told(told))

    def test_words_of_any_length(self):
        for length in (4000, 8000, 20000):
            word = made_word(6, length, length)
            self.assertEqual(read_word(made_machine(2, 6, 1), word_text(word)), word)
        self.refuses(ROUND, "a" * 20000 + "c")
        self.refuses(ROUND, "a" * 20000 + "-")

    def test_the_empty_text(self):
        for machine in (ONE_ROOM, ROUND, made_machine(26, 6, 1)):
            self.refuses(machine, "")

    def test_letters_that_are_not_there(self):
        for letters in range(1, 7):
            machine = made_machine(8, letters, 3)
            for letter, sign in enumerate(ALPHABET):
                for text in (sign, "a" + sign, sign + "a"):
                    if letter < letters:
                        self.assertEqual(word_text(read_word(machine, text)), text)
                    else:
                        self.refuses(machine, text)

    def test_letters_are_counted_not_rooms(self):
        self.assertEqual(read_word(((0, 0, 0),), "c"), (2,))
        self.refuses(((0,), (0,), (0,)), "b")

    def test_other_signs(self):
        for code in list(range(32, 127)) + [10, 9, 0, 0xe4, 0x430, 0x1d41a]:
            sign = chr(code)
            if sign in "ab":
                continue
            for text in (sign + "a", "a" + sign, "a" + sign + "b", sign + sign):
                self.refuses(ROUND, text)
            if sign != "-":
                self.refuses(ROUND, sign)

    def test_texts_near_the_word_of_no_letter(self):
        for text in ("--", "a-", "-a", " -", "- ", "-\n", "\n-", "---", "a-b", " ", "\n", "_"):
            self.refuses(ROUND, text)

    def test_blanks_and_case(self):
        for text in (" ab", "ab ", "a b", "ab\n", "\nab", "A", "AB", "aB", "0", "01", "(0,)"):
            self.refuses(ROUND, text)

    def test_all_short_texts(self):
        for many in range(4):
            for signs in product("abc- A", repeat=many):
                text = "".join(signs)
                if text == "-" or (text and set(text) <= {"a", "b"}):
                    self.assertEqual(word_text(read_word(ROUND, text)), text)
                else:
                    self.refuses(ROUND, text)

    def test_same_behind_the_call_and_asked_again(self):
        machine, word = round_machine(5), made_word(2, 40, 1)
        self.assertEqual(word_text(word), word_text(word))
        self.assertEqual(read_word(machine, "abba"), read_word(machine, "abba"))
        self.assertEqual((machine, word), (round_machine(5), made_word(2, 40, 1)))


if __name__ == "__main__":
    unittest.main()
