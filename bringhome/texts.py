"""Names, machines and words, written and read."""

from bringhome.errors import NoMachine, NoWord
from bringhome.machines import is_word

LETTERS = "abcdefghijklmnopqrstuvwxyz"
NO_LETTER = "-"
LONGEST_NAME = 8
MOST_LETTERS = 6
MOST_ROOMS = 26


def is_name(thing):
    """Whether thing is a name of a room."""
    if not isinstance(thing, str) or not 1 <= len(thing) <= LONGEST_NAME:
        return False
    return all(["a" <= sign <= "z" for sign in thing])


def words_in(row):
    """The list of the words of a row."""
    # Blanks alone part words: split() without a sign would part them at others, too.
    return [word for word in row.split(" ") if word]


def rows_in(text):
    """The list of the rows with words, each a pair of its number and its words."""
    rows = [(at, words_in(row)) for at, row in enumerate(text.split("\n"))]
    return [(at, words) for at, words in rows if words]


def rows_many(text):
    """How many rows the text has, with words or without."""
    return len(text.split("\n"))


def row_fault(words, due, ahead):
    """The word for the fault of a room's row, or None; due is its count of words, ahead holds the names ahead."""
    if not all([is_name(word) for word in words]):
        return "name"
    if len(words) != due or not 1 <= len(words) - 1 <= MOST_LETTERS:
        return "count"
    if words[0] in ahead:
        return "twice"
    if len(ahead) >= MOST_ROOMS:
        return "many"
    return None


def numbered(rows):
    """The dict from each row's name to its room; refuses the first row that is at fault by what stands ahead of it."""
    rooms = {}
    for at, words in rows:
        fault = row_fault(words, len(rows[0][1]), rooms)
        if fault is not None:
            raise NoMachine(at, fault)
        rooms[words[0]] = len(rooms)
    return rooms


def machine_of(rows, rooms):
    """The machine of these rows, rooms the dict from names to rooms; refuses the first row with another name."""
    for at, words in rows:
        if not all([word in rooms for word in words]):
            raise NoMachine(at, "room")
    return tuple([tuple([rooms[word] for word in words[1:]]) for at, words in rows])


def read_machine(text):
    """The machine that the text writes, and the tuple of its names."""
    rows = rows_in(text)
    rooms = numbered(rows)
    if not rows:
        raise NoMachine(rows_many(text), "none")
    return machine_of(rows, rooms), tuple(rooms)


def machine_text(machine, names):
    """The text of the machine with these names of its rooms."""
    rows = [[name] + [names[goal] for goal in row] for name, row in zip(names, machine)]
    return "\n".join([" ".join(row) for row in rows])


def word_text(word):
    """The text that writes the word."""
    if len(word) == 0:
        return NO_LETTER
    return "".join([LETTERS[letter] for letter in word])


def read_word(machine, text):
    """The word of the machine that the text writes."""
    if text == NO_LETTER:
        return ()
    # A sign that is no letter is found at -1, which is no letter of any machine.
    word = tuple([LETTERS.find(sign) for sign in text])
    if len(word) == 0 or not is_word(machine, word):
        raise NoWord()
    return word
