"""Sheets: a machine's rows, and questions that are answered."""

from bringhome.errors import NoMachine, NoSheet
from bringhome.questions import answer_to, is_question, read_question
from bringhome.texts import machine_of, row_fault, rows_in, rows_many

ROOM = "room"


def is_amiss(words, due, rooms, asked):
    """Whether a row is at fault: due is the count of words behind each `room`, rooms holds the names ahead, asked is
    whether a question stands ahead."""
    if words[0] == ROOM:
        return asked or row_fault(words[1:], due, rooms) is not None
    return len(rooms) == 0 or not is_question(words[0])


def numbered_rooms(rows):
    """The dict from each room's name to its room; refuses the first row that is at fault by what stands ahead of it."""
    rooms = {}
    asked = False
    for at, words in rows:
        if is_amiss(words, len(rows[0][1]) - 1, rooms, asked):
            raise NoSheet(at)
        if words[0] == ROOM:
            rooms[words[1]] = len(rooms)
        else:
            asked = True
    return rooms


def sheet_machine(rows, rooms):
    """The machine of the rooms' rows; refuses the first one with the name of a room of which there is no row."""
    try:
        return machine_of([(at, words[1:]) for at, words in rows if words[0] == ROOM], rooms)
    except NoMachine as e:
        raise NoSheet(e.row) from None


def read_questions(rows, machine, names):
    """The list of the questions, each a pair of its first word and what is asked; refuses the first one at fault."""
    questions = []
    for at, words in rows:
        if words[0] != ROOM:
            asked = read_question(machine, names, words)
            if asked is None:
                raise NoSheet(at)
            questions.append((words[0], asked))
    return questions


def answers(text):
    """The tuple of the answers to the questions of a sheet."""
    rows = rows_in(text)
    if not rows:
        raise NoSheet(rows_many(text))
    rooms = numbered_rooms(rows)
    machine, names = sheet_machine(rows, rooms), tuple(rooms)
    # All questions are read ahead of the first answer: what is refused need not be reckoned.
    questions = read_questions(rows, machine, names)
    return tuple([answer_to(machine, names, word, asked) for word, asked in questions])
