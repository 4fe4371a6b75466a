"""The questions of a sheet: what is asked, of rooms with names, and what is answered."""

from bringhome.beats import beats
from bringhome.colours import coloured
from bringhome.errors import NoWord
from bringhome.levels import least_word, word_into
from bringhome.machines import all_rooms
from bringhome.pairs import apart, together
from bringhome.quick import least_many, quick
from bringhome.stability import stable
from bringhome.texts import read_word, word_text
from bringhome.walking import brought, led
from bringhome.webs import web_of

NONE = "none"


def read_letters(machine, text):
    """The word that the text writes, or None."""
    try:
        return read_word(machine, text)
    except NoWord:
        return None


def read_names(names, words):
    """The set of the rooms with these names, or None where one is unknown or stands twice."""
    if len(set(words)) != len(words) or not all([word in names for word in words]):
        return None
    return tuple(sorted([names.index(word) for word in words]))


def read_led(machine, names, words):
    """A room and a word."""
    if len(words) != 2 or words[0] not in names:
        return None
    word = read_letters(machine, words[1])
    return None if word is None else (names.index(words[0]), word)


def read_brought(machine, names, words):
    """A word."""
    return read_letters(machine, words[0]) if len(words) == 1 else None


def read_home(machine, names, words):
    """A set; all rooms where none is named."""
    return read_names(names, words) if words else all_rooms(machine)


def read_into(machine, names, words):
    """A set."""
    return read_names(names, words) if words else None


def read_together(machine, names, words):
    """A pair."""
    return read_names(names, words) if len(words) == 2 else None


def read_bare(machine, names, words):
    """Nothing."""
    return None if words else ()


def named(names, rooms):
    """The list of the names of these rooms."""
    return [names[room] for room in rooms]


def search_text(told):
    """What a search for a shortest word tells: the word, or that there is none."""
    return word_text(told[1]) if told[0] == "word" else NONE


def answer_led(machine, names, asked):
    """The name of the room to which a word leads."""
    room, word = asked
    return names[led(machine, room, word)]


def answer_brought(machine, names, asked):
    """The names of the rooms to which a word brings all."""
    return " ".join(named(names, brought(machine, all_rooms(machine), asked)))


def answer_home(machine, names, asked):
    """The shortest word that brings a set to one room."""
    return search_text(least_word(machine, asked, 1))


def answer_into(machine, names, asked):
    """The shortest word that brings all rooms into a set."""
    return search_text(word_into(machine, all_rooms(machine), asked))


def answer_together(machine, names, asked):
    """The shortest word that brings a pair together."""
    word = together(machine, asked[0], asked[1])
    return NONE if word is None else word_text(word)


def answer_apart(machine, names, asked):
    """The pairs that no word brings together."""
    pairs = apart(machine)
    return " ".join(["-".join(named(names, pair)) for pair in pairs]) if pairs else NONE


def answer_quick(machine, names, asked):
    """The word that is found quickly for all rooms."""
    return word_text(quick(machine, all_rooms(machine))[0])


def answer_many(machine, names, asked):
    """How few rooms any word leaves, and rooms that are left."""
    many, word, kept = least_many(machine)
    return " ".join([str(many)] + named(names, kept))


def answer_stable(machine, names, asked):
    """The classes of rooms that may as well be one."""
    parting = stable(machine)
    classes = [[name for name, own in zip(names, parting) if own == number] for number in range(max(parting) + 1)]
    return " ".join(["+".join(some) for some in classes])


def answer_beats(machine, names, asked):
    """The closed parts with their beats."""
    return " ".join([f"{beat}:" + "+".join(named(names, part)) for part, beat, phases in beats(web_of(machine))])


def answer_colour(machine, names, asked):
    """How few rooms a word leaves where letters are put on the machine's web."""
    other, word, shown = coloured(web_of(machine))
    return str(len(brought(other, all_rooms(other), word)))


READERS = {
    "led": read_led, "brought": read_brought, "home": read_home, "into": read_into, "together": read_together,
    "apart": read_bare, "quick": read_bare, "many": read_bare, "stable": read_bare, "beats": read_bare,
    "colour": read_bare,
}

ANSWERS = {
    "led": answer_led, "brought": answer_brought, "home": answer_home, "into": answer_into,
    "together": answer_together, "apart": answer_apart, "quick": answer_quick, "many": answer_many,
    "stable": answer_stable, "beats": answer_beats, "colour": answer_colour,
}


def is_question(word):
    """Whether a question begins with this word."""
    return word in ANSWERS


def read_question(machine, names, words):
    """What the words of a question ask, or None where they are at fault."""
    reader = READERS[words[0]]
    return reader(machine, names, words[1:])


def answer_to(machine, names, word, asked):
    """The text that answers the question that begins with this word, asked what it asks."""
    deed = ANSWERS[word]
    return deed(machine, names, asked)
