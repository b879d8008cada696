"""Texts of conditions as the calls take them: read, or refused."""

from codeeditions.bounds import LONGEST_CONDITION
from codeeditions.reading import Reader
from codeeditions.tokens import is_flag_word, tokens_of
from codeeditions.writing import written_signs


class Reading:
    """What became of a text: a refusal below 0, or 0 and the condition's steps, and how it's written."""

    def __init__(self, refusal, steps, signs):
        self.refusal = refusal
        self.steps = steps
        self.signs = signs


def unknown_flag_place(tokens, flag_keys):
    """The place of the first flag whose text isn't among these; -1 if there's none."""
    for token in tokens:
        if is_flag_word(token.signs) and token.signs not in flag_keys:
            return token.place
    return -1


def reading_of(signs, flag_keys):
    """Read a text; flag_keys has the texts of the flags that there are."""
    tokens = tokens_of(signs)
    reader = Reader(tokens)
    if not reader.read_condition():
        return Reading(-1000 - reader.stop_place(), [], "")
    place = unknown_flag_place(tokens, flag_keys)
    if place >= 0:
        return Reading(-6000 - place, [], "")
    written = written_signs(reader.steps)
    if len(written) > LONGEST_CONDITION:
        return Reading(-20000, [], "")
    return Reading(0, reader.steps, written)
