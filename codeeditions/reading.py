"""Reading a condition: from tokens to steps.

A condition is kept as a list of steps, each behind what it works on, so that whatever
goes through a condition is a plain loop, however long its chains of "and" and "or" are:
("true",), ("false",), ("flag", its text), ("from", day), ("before", day),
("rank", lowest, highest), ("not",) of the one before it, ("and",) and ("or",) of the
two before it.
"""

from codeeditions.bounds import DEEPEST_NESTING, HIGHEST_RANK, LAST_DAY
from codeeditions.tokens import is_flag_word, worth_of


class Reader:
    """Goes through the tokens of one text and gathers the steps of its condition."""

    def __init__(self, tokens):
        self.tokens = tokens
        self.at = 0
        self.steps = []
        # What has begun and isn't at its end, the outermost first: "not", "(", "and", "or".
        self.pending = []
        self.nesting = 0

    def sees(self):
        return self.tokens[self.at].signs

    def stop_place(self):
        return self.tokens[self.at].place

    def read_condition(self):
        """Whether the text is right; if not, the reader stays at the token that can't stand there."""
        while self.read_unit():
            while self.sees() == ")" and "(" in self.pending:
                self.close_bracket()
            if self.sees() == "" and "(" not in self.pending:
                self.close_joints(("and", "or"))
                return True
            if not self.read_joint():
                return False
        return False

    def read_unit(self):
        """A unit, or what begins one that a later bracket ends."""
        while self.sees() in ("not", "("):
            if self.nesting == DEEPEST_NESTING:
                return False
            self.pending.append(self.sees())
            self.nesting += 1
            self.at += 1
        if not self.read_plain_unit():
            return False
        self.close_nots()
        return True

    def read_plain_unit(self):
        word = self.sees()
        if word in ("from", "before"):
            self.at += 1
            return self.read_day(word)
        if word == "rank":
            self.at += 1
            return self.read_ranks()
        if word in ("true", "false"):
            self.steps.append((word,))
        elif is_flag_word(word):
            self.steps.append(("flag", word))
        else:
            return False
        self.at += 1
        return True

    def read_day(self, word):
        day = self.read_number(0, LAST_DAY)
        if day < 0:
            return False
        self.steps.append((word, day))
        return True

    def read_ranks(self):
        lowest = self.read_number(0, HIGHEST_RANK)
        if lowest < 0:
            return False
        highest = lowest
        if self.sees() == "to":
            self.at += 1
            highest = self.read_number(lowest, HIGHEST_RANK)
            if highest < 0:
                return False
        self.steps.append(("rank", lowest, highest))
        return True

    def read_number(self, least, greatest):
        """A number within these bounds; -1, and the reader stays, if there's none."""
        worth = worth_of(self.sees())
        if worth < least or worth > greatest:
            return -1
        self.at += 1
        return worth

    def read_joint(self):
        word = self.sees()
        if word == "and":
            self.close_joints(("and",))
        elif word == "or":
            self.close_joints(("and", "or"))
        else:
            return False
        self.pending.append(word)
        self.at += 1
        return True

    def close_joints(self, words):
        """End those joints on top whose right side is whole: the leftmost two belong together first."""
        while len(self.pending) > 0 and self.pending[-1] in words:
            self.steps.append((self.pending.pop(),))

    def close_nots(self):
        while len(self.pending) > 0 and self.pending[-1] == "not":
            self.steps.append((self.pending.pop(),))
            self.nesting -= 1

    def close_bracket(self):
        self.close_joints(("and", "or"))
        self.pending.pop()
        self.nesting -= 1
        self.at += 1
        self.close_nots()
