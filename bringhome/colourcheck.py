"""Whether letters that are put on a web leave as few rooms as is told, whoever tells it."""

from bringhome.beats import beats_sum, shows_beats
from bringhome.machines import all_rooms, is_machine, is_word
from bringhome.walking import brought
from bringhome.webs import web_of


def shows_coloured(web, told):
    """Whether told is a machine whose web it is, a word of it, and beats that are as many as the word leaves rooms."""
    if not isinstance(told, tuple) or len(told) != 3:
        return False
    machine, word, shown = told
    if not is_machine(machine) or web_of(machine) != web:
        return False
    if not is_word(machine, word) or not shows_beats(web, shown):
        return False
    return len(brought(machine, all_rooms(machine), word)) == beats_sum(shown)
