"""Points 25 and 26, and what point 2 says of them."""

import unittest

from bringhome.beats import beats
from bringhome.errors import HomeError, NoMachine, NoSheet, NoWord
from bringhome.levels import least_word, word_into
from bringhome.machines import renamed
from bringhome.pairs import apart, together
from bringhome.quick import least_many, quick
from bringhome.sheet import answers
from bringhome.stability import stable
from bringhome.texts import machine_text, word_text
from bringhome.webs import web_of
from samples import (
    EXCHANGE, HALL, PARTS, ROUND, Drawn, all_rooms, copied_rooms, goal_by_hand, is_told, made_machine, round_machine,
    sets_of, wide_machines, with_copies, words_of,
)

HOUSE = "room hall cellar hall\nroom cellar attic hall\nroom attic attic attic"
# Letter a exchanges rooms p and q, letter b stays; room r leads to p and q.
PAIR = "room p q p\nroom q p q\nroom r p q"
STAY = "room x x\nroom y y\nroom z z"
NAMES = ("hall", "zeta", "b", "attic", "room", "led", "none", "home", "cellar", "many", "abcdefgh", "i", "j", "k", "l",
         "m", "n", "o", "p", "q", "r", "s", "t", "u", "v", "w")
QUESTIONS = ("led", "brought", "home", "into", "together", "apart", "quick", "many", "stable", "beats", "colour")
BARE = QUESTIONS[5:]


def rooms_text(machine, names=NAMES):
    """The rows of a machine's rooms in a sheet."""
    rows = machine_text(machine, names[:len(machine)]).split("\n")
    return "\n".join("room " + row for row in rows)


def asked(text, *questions):
    """The answers to questions behind these rows."""
    return answers("\n".join((text,) + questions))


def one(text, question):
    """The answer to one question behind these rows."""
    told, = asked(text, question)
    return told


def word_or_none(told):
    """What is answered of what a search tells."""
    return word_text(told[1]) if told[0] == "word" else "none"


class WrittenOut(unittest.TestCase):
    def test_each_question(self):
        self.assertEqual(asked(
            HOUSE, "led hall ab", "brought a", "home", "home attic hall", "into attic", "into cellar",
            "together hall attic", "apart", "quick", "many", "stable", "beats", "colour",
        ), ("hall", "cellar attic", "aa", "aa", "aa", "none", "aa", "none", "baa", "1 attic", "hall+cellar+attic",
            "1:attic", "1"))

    def test_each_question_where_not_all_come_together(self):
        self.assertEqual(asked(
            PAIR, "led r ba", "brought -", "brought a", "home", "home p r", "home r q", "home q p", "into q",
            "into q p", "together r q", "together q p", "apart", "quick", "many", "stable", "beats", "colour",
        ), ("p", "p q r", "p q", "none", "none", "a", "none", "none", "a", "a", "none", "p-q p-r", "a", "2 p q",
            "p q+r", "1:p+q", "1"))

    def test_rooms_that_stay(self):
        self.assertEqual(asked(
            STAY, "led y aaaa", "brought aa", "home", "home z", "into x y z", "into z x", "together z x", "apart",
            "quick", "many", "stable", "beats", "colour",
        ), ("y", "x y z", "none", "-", "-", "none", "none", "x-y x-z y-z", "-", "3 x y z", "x y z", "1:x 1:y 1:z", "3"))

    def test_a_turn(self):
        self.assertEqual(asked(
            "room a b\nroom b c\nroom c a\nroom d a", "beats", "many", "stable", "apart", "colour", "home c d", "quick",
        ), ("3:a+b+c", "3 a b c", "a b c+d", "a-b a-c a-d b-c b-d", "3", "a", "a"))


class Led(unittest.TestCase):
    def test_each_room_and_short_word(self):
        for machine in (ROUND, HALL, PARTS):
            for word in words_of(machine, 3):
                for room in all_rooms(machine):
                    goal, = goal_by_hand(machine, (room,), word)
                    self.assertEqual(one(rooms_text(machine), f"led {NAMES[room]} {word_text(word)}"), NAMES[goal])

    def test_long_words(self):
        self.assertEqual(one("room a b\nroom b a", "led a " + "a" * 7001), "b")


class Brought(unittest.TestCase):
    def test_short_words(self):
        for machine in (ROUND, HALL, PARTS, EXCHANGE):
            for word in words_of(machine, 4):
                names = [NAMES[room] for room in goal_by_hand(machine, all_rooms(machine), word)]
                self.assertEqual(one(rooms_text(machine), "brought " + word_text(word)), " ".join(names))


class HomeAndInto(unittest.TestCase):
    def test_all_rooms(self):
        made = [made_machine(9, 4, seed) for seed in range(5)]
        for machine in [ROUND, HALL, PARTS, EXCHANGE, round_machine(9)] + made:
            told = least_word(machine, all_rooms(machine), 1)
            self.assertEqual(one(rooms_text(machine), "home"), word_or_none(told))

    def test_names_in_any_order(self):
        for at, machine in enumerate((ROUND, HALL, PARTS, EXCHANGE, made_machine(6, 2, 3))):
            for some in sets_of(machine):
                names = Drawn(at).shuffled([NAMES[room] for room in some])
                for words in (names, names[::-1], sorted(names)):
                    home, into = asked(rooms_text(machine), "home " + " ".join(words), "into " + " ".join(words))
                    self.assertEqual(home, word_or_none(least_word(machine, some, 1)))
                    self.assertEqual(into, word_or_none(word_into(machine, all_rooms(machine), some)))

    def test_one_name(self):
        for name in ("hall", "cellar", "attic"):
            self.assertEqual(one(HOUSE, "home " + name), "-")

    def test_all_names(self):
        self.assertEqual(asked(HOUSE, "home attic cellar hall", "into attic cellar hall"), ("aa", "-"))

    def test_the_first_of_several_words(self):
        self.assertEqual(one("room x x x\nroom y x x", "home"), "a")
        self.assertEqual(one("room x x y x\nroom y y x x", "home"), "c")


class Pairs(unittest.TestCase):
    def test_together(self):
        for machine in (ROUND, HALL, PARTS, EXCHANGE, made_machine(7, 2, 3)):
            for first in all_rooms(machine):
                for other in all_rooms(machine):
                    if first != other:
                        told = together(machine, first, other)
                        self.assertEqual(one(rooms_text(machine), f"together {NAMES[first]} {NAMES[other]}"),
                                         "none" if told is None else word_text(told))

    def test_apart(self):
        for machine in [ROUND, HALL, PARTS, EXCHANGE, ((0,),)] + wide_machines():
            pairs = [f"{NAMES[lesser]}-{NAMES[greater]}" for lesser, greater in apart(machine)]
            self.assertEqual(one(rooms_text(machine), "apart"), " ".join(pairs) or "none")

    def test_names_stand_in_the_order_of_the_rooms(self):
        self.assertEqual(one("room z z\nroom a a", "apart"), "z-a")
        self.assertEqual(one("room a a\nroom z z", "apart"), "a-z")


class TheOthers(unittest.TestCase):
    def machines(self):
        copies = [with_copies(made_machine(3, 2, seed), copied_rooms(3, 7, seed), seed) for seed in range(8)]
        made = [made_machine(8, 1 + seed % 3, seed) for seed in range(9)]
        return [ROUND, HALL, PARTS, EXCHANGE, ((0,),)] + copies + made

    def test_quick(self):
        for machine in self.machines() + wide_machines():
            self.assertEqual(one(rooms_text(machine), "quick"), word_text(quick(machine, all_rooms(machine))[0]))

    def test_many(self):
        for machine in self.machines() + wide_machines():
            many, word, kept = least_many(machine)
            self.assertEqual(one(rooms_text(machine), "many"), " ".join([str(many)] + [NAMES[room] for room in kept]))

    def test_stable(self):
        for machine in self.machines() + wide_machines():
            parting = stable(machine)
            classes = ["+".join(NAMES[room] for room in all_rooms(machine) if parting[room] == number)
                       for number in range(len(set(parting)))]
            self.assertEqual(one(rooms_text(machine), "stable"), " ".join(classes))

    def test_beats(self):
        for machine in self.machines() + wide_machines():
            parts = [f"{beat}:" + "+".join(NAMES[room] for room in part)
                     for part, beat, phases in beats(web_of(machine))]
            self.assertEqual(one(rooms_text(machine), "beats"), " ".join(parts))

    def test_colour(self):
        for machine in self.machines():
            many = sum(beat for part, beat, phases in beats(web_of(machine)))
            self.assertEqual(one(rooms_text(machine), "colour"), str(many))
        # The web comes to one room, though no word of the machine brings its rooms there.
        self.assertEqual(asked(rooms_text(EXCHANGE), "many", "colour"), ("4 hall zeta b attic", "1"))

    def test_colour_is_asked_of_the_web(self):
        # With these letters no word leaves fewer than three rooms; with others, one does.
        text = "room x x y\nroom y y z\nroom z z x"
        self.assertEqual(asked(text, "many", "colour", "beats"), ("3 x y z", "1", "1:x+y+z"))


class Rows(unittest.TestCase):
    def test_no_question(self):
        self.assertEqual(answers(HOUSE), ())
        self.assertEqual(answers("room a a"), ())

    def test_the_same_question_again(self):
        self.assertEqual(asked(HOUSE, "home", "many", "home"), ("aa", "1 attic", "aa"))

    def test_blanks_and_rows_without_words_more(self):
        plain = (HOUSE + "\nled hall ab\nhome attic hall\nmany").split("\n")
        told = answers("\n".join(plain))
        self.assertEqual(told, ("hall", "aa", "1 attic"))
        for text in ("\n\n".join(plain), "\n".join("  " + row + "   " for row in plain), "\n \n  \n".join(plain),
                     "\n".join(row.replace(" ", "   ") for row in plain), "\n" * 9 + "\n".join(plain) + "\n" * 9,
                     "   \n" + "\n".join(plain) + "\n "):
            self.assertEqual(answers(text), told)

    def test_names_that_are_words_of_a_sheet(self):
        text = "room room none led\nroom none led room\nroom led led led"
        self.assertEqual(asked(text, "led room a", "led led b", "together none room", "brought a", "home none"),
                         ("none", "led", "aa", "none led", "-"))
        self.assertEqual(asked("room room room", "led room a", "many"), ("room", "1 room"))

    def test_a_name_that_reads_as_a_word(self):
        self.assertEqual(asked("room a b\nroom b a", "led a a", "led b aa", "brought a"), ("b", "b", "a b"))

    def test_26_rooms_and_6_letters(self):
        for machine in wide_machines():
            told = asked(rooms_text(machine), "led hall abcdef", "brought fedcba", "together w hall")
            self.assertEqual(told[0], NAMES[goal_by_hand(machine, (0,), (0, 1, 2, 3, 4, 5))[0]])
            names = [NAMES[room] for room in goal_by_hand(machine, all_rooms(machine), (5, 4, 3, 2, 1, 0))]
            self.assertEqual(told[1], " ".join(names))

    def test_many_questions(self):
        self.assertEqual(asked(HOUSE, *["led hall a"] * 700), ("cellar",) * 700)

    def test_called_otherwise(self):
        order = (4, 2, 0, 5, 1, 3)
        for seed in range(10):
            machine = made_machine(6, 2, seed)
            names = tuple(NAMES[room] for room in order)
            text, turned = rooms_text(machine), rooms_text(renamed(machine, order), names)
            for question in ("led hall abba", "home", "home b led", "into led room hall", "together room b", "colour"):
                self.assertEqual(one(text, question), one(turned, question))
            self.assertEqual(sorted(one(text, "brought ab").split()), sorted(one(turned, "brought ab").split()))
            self.assertEqual(one(text, "many").split()[0], one(turned, "many").split()[0])
            self.assertEqual(sorted(sorted(some.split("-")) for some in one(text, "apart").split()),
                             sorted(sorted(some.split("-")) for some in one(turned, "apart").split()))
            self.assertEqual(sorted(sorted(some.split("+")) for some in one(text, "stable").split()),
                             sorted(sorted(some.split("+")) for some in one(turned, "stable").split()))


class Refused(unittest.TestCase):
    def refuses(self, text, row):
        with self.assertRaises(NoSheet) as taken:
            answers(text)
        self.assertEqual(taken.exception.row, row, text)
        self.assertIs(type(taken.exception.row), int)
        self.assertIsInstance(taken.exception, HomeError)
        self.assertNotIsInstance(taken.exception, (NoMachine, NoWord))

    def test_another_first_word(self):
        for word in ("rooms", "Room", "ROOM", "roo", "hall", "Home", "leds", "-", "a", "~", "1", "none", "colours",
                     "color", "beat", "room:", "#", "least", "coloured"):
            self.refuses(word, 0)
            self.refuses(f"{word} a a", 0)
            self.refuses(f"{HOUSE}\n{word}", 3)
            self.refuses(f"{HOUSE}\nhome\n\n  \n{word} hall\nhome", 6)
            self.refuses(f"room a a\n{word} b b\nroom c c", 1)

    def test_a_rooms_row_behind_a_question(self):
        self.refuses("room a a\nhome\nroom b b", 2)
        self.refuses("room a a\n\nquick\n\n\nroom b b", 5)
        self.refuses("room a a\nhome\nroom", 2)
        for question in QUESTIONS:
            # The question's own fault is due behind it.
            self.refuses(f"room a a\n{question} x y z\nroom b b", 2)
        # The name of a room whose row stands behind a question.
        self.refuses("room a b\nhome\nroom b a", 2)

    def test_a_question_ahead_of_all_rooms(self):
        for question in QUESTIONS:
            self.refuses(question, 0)
            self.refuses(f"{question}\nroom a a", 0)
            self.refuses(f"\n  \n{question} a\nroom a a", 2)

    def test_a_rooms_row_without_a_word(self):
        self.refuses("room", 0)
        self.refuses("  room   ", 0)
        self.refuses("room\nroom a a", 0)
        self.refuses("room a a\nroom\nroom b b", 1)
        self.refuses("room a a\n\n\nroom", 3)

    def test_name(self):
        for bad in ("A", "Hall", "hall1", "abcdefghi", "a-b", "-", "a+b", "~", "0", "a:"):
            self.refuses(f"room {bad} a", 0)
            self.refuses(f"room a {bad}", 0)
            self.refuses(f"room a a\nroom b {bad}\nroom c c", 1)
            self.refuses(f"room a a\nroom {bad} a\nhome", 1)

    def test_count(self):
        self.refuses("room a", 0)
        self.refuses("room a\nroom b", 0)
        self.refuses("room a a a a a a a a", 0)
        self.refuses("room a a\nroom b", 1)
        self.refuses("room a a\nroom b b b", 1)
        self.refuses("room a a a\nroom b b", 1)
        self.refuses("\nroom a a a\n\nroom b b b\nroom c c\nroom d d d", 4)
        self.refuses("room a a a\nroom b b\nroom c c", 1)
        self.assertEqual(answers("room a a a a a a a\nhome"), ("-",))

    def test_twice(self):
        self.refuses("room a a\nroom a a", 1)
        self.refuses("room a a\nroom b b\n\nroom a b\nroom b b", 3)
        self.refuses("room a a\nroom b b\nroom b b\nhome", 2)

    def test_many(self):
        rows = rooms_text(tuple((room,) for room in range(26)))
        self.assertEqual(asked(rows, "led w a"), ("w",))
        self.refuses(rows + "\nroom x x", 26)
        self.refuses(rows + "\n\n \nroom x x\nhome", 28)
        self.refuses(rows + "\nroom x x\nroom y y", 26)
        self.refuses(rows.replace("\n", "\n\n") + "\nroom x nowhere", 51)

    def test_a_room_of_which_there_is_no_row(self):
        self.refuses("room a b", 0)
        self.refuses("room a a\nroom b c", 1)
        self.refuses("room a a\n\nroom b x\nroom c y", 2)
        self.refuses("room a room", 0)
        self.refuses("room a home\nhome", 0)

    def test_words_too_few_or_too_many(self):
        for question in ("led", "led hall", "led a", "led hall a a", "led hall cellar a", "led hall a hall", "brought",
                         "brought a a", "brought hall a", "brought - -", "into", "together", "together hall",
                         "together hall attic cellar", "together hall attic a"):
            self.refuses(f"{HOUSE}\n{question}", 3)
            self.refuses(f"{HOUSE}\nhome\n \n{question}\nhome", 5)
        for question in BARE:
            self.assertEqual(len(asked(HOUSE, question)), 1)
            for more in ("hall", "a", "-", question, "hall attic", "none"):
                self.refuses(f"{HOUSE}\n{question} {more}", 3)

    def test_an_unknown_name(self):
        for question in ("led nowhere a", "led Hall a", "led - a", "led a a", "home nowhere", "home hall nowhere",
                         "home nowhere hall", "home Hall", "home -", "home a", "home abcdefghi", "into nowhere",
                         "into hall cellar attic x", "into -", "together hall nowhere", "together nowhere hall",
                         "together x y", "together hall -", "home hall+attic", "home room"):
            self.refuses(f"{HOUSE}\n{question}", 3)
            self.refuses(f"{HOUSE}\nmany\n{question}\nmany", 4)

    def test_a_name_that_stands_twice(self):
        for question in ("home hall hall", "home hall attic hall", "home attic attic cellar", "into hall hall",
                         "into attic cellar cellar", "into hall cellar attic hall", "together hall hall",
                         "together attic attic"):
            self.refuses(f"{HOUSE}\n{question}", 3)

    def test_a_word_that_writes_none(self):
        for word in ("c", "A", "ac", "ab-", "-a", "--", "0", "hall", "a.b", "aB", "z", "~"):
            self.refuses(f"{HOUSE}\nled hall {word}", 3)
            self.refuses(f"{HOUSE}\nbrought {word}", 3)
            self.refuses(f"{HOUSE}\nbrought a\n\nbrought {word}\nbrought c", 5)
        self.refuses("room a a\nbrought b", 1)
        self.refuses("room a a\nled a b", 1)

    def test_no_room(self):
        self.refuses("", 1)
        self.refuses(" ", 1)
        self.refuses("\n", 2)
        self.refuses("\n\n\n", 4)
        self.refuses(" \n   \n", 3)
        self.refuses("\n" * 7999, 8000)

    def test_rows_are_due_ahead_of_rooms_and_rooms_ahead_of_questions(self):
        # An unknown room in row 0, a question at fault in row 2, another first word in row 3.
        self.refuses("room a x\nroom b b\nled\nfoo", 3)
        self.refuses("room a x\nroom b b\nled\nroom c c", 3)
        self.refuses("room a x\nroom b b\nled", 0)
        self.refuses("room a a\nroom b x\nled", 1)
        self.refuses("room a a\nroom b b\nled\nhome c", 2)
        self.refuses("room a x\nroom b B", 1)
        self.refuses("room a x\nroom b", 1)
        self.refuses("room a x\nroom a a", 1)
        self.refuses("room a x\nroom", 1)
        self.refuses("room first nowhere\n" + rooms_text(tuple((room,) for room in range(26))), 26)
        self.refuses("room a x\nhome y\nroom b b", 2)
        self.refuses("room a x\nhome y\nquick z", 0)
        self.refuses("room a a\nhome y\nquick z", 1)

    def test_the_first_row_at_fault_by_itself(self):
        self.refuses("room a a\nfoo\nroom b B", 1)
        self.refuses("room a a\nroom b B\nfoo", 1)
        self.refuses("room a a\nroom a a\nfoo\nroom", 1)
        self.refuses("room a a\nhome\nfoo\nroom b b", 2)
        self.refuses("room a a\nhome\nroom b b\nfoo", 2)
        self.refuses("home\nfoo\nroom", 0)
        self.refuses("foo\nhome\nroom", 0)
        self.refuses("room\nhome", 0)

    def test_the_first_question_at_fault(self):
        faults = ("led", "brought c", "home x", "into", "together hall hall", "quick a")
        for at, first in enumerate(faults):
            for other in faults:
                self.refuses(f"{HOUSE}\nmany\n{first}\nmany\n{other}", 4)

    def test_what_is_refused_is_not_reckoned(self):
        # The levels of so many rooms would never be told; the row behind is at fault.
        rows = rooms_text(tuple(row * 3 for row in round_machine(26)))
        self.refuses(rows + "\nhome\ninto hall\nled", 28)

    def test_refused_again_the_same(self):
        for text in ("", "room a", HOUSE + "\nled", "room a b"):
            told = []
            for _ in range(2):
                with self.assertRaises(NoSheet) as taken:
                    answers(text)
                told.append(taken.exception.row)
            self.assertEqual(told[0], told[1])


class PointTwo(unittest.TestCase):
    def test_asked_again_the_same_is_told(self):
        for text in (HOUSE, PAIR, STAY):
            questions = ("home", "apart", "quick", "many", "stable", "beats", "colour")
            self.assertEqual(asked(text, *questions), asked(text, *questions))

    def test_all_that_is_told_is_a_tuple_of_texts(self):
        told = asked(PAIR, "home", "apart", "quick", "many", "stable", "beats", "colour", "led r ab", "brought b",
                     "into p")
        self.assertTrue(is_told(told))
        self.assertIs(type(told), tuple)
        self.assertTrue(all(type(answer) is str for answer in told))
        self.assertEqual(answers(PAIR), ())


if __name__ == "__main__":
    unittest.main()
