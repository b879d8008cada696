"""Texts of conditions against other ways to find the same: rightness by rewriting, places by
trying what could follow, and the written form by Python's own reading of and, or, not."""

import ast
import itertools
import random
import re
import unittest

from tests.helper import ask, flag, form, told

FLAGS = [flag(1, "a"), flag(2, "b"), flag(3, "c")]
VOCABULARY = ("a", "true", "and", "or", "not", "(", ")", "from", "before", "rank", "to", "3", "5", "9")
FOLLOWERS = ("", " a", " 5")


def formed_all(texts):
    """What form answers to each of these, asked in lines that keep to the bounds of a line."""
    found = []
    line = []
    size = 0
    for text in texts:
        if len(line) == 390 or size + len(text) > 30000:
            found += ask(*FLAGS, *line)[3:]
            line = []
            size = 0
        line.append(form(text))
        size += len(text) + 2
    return found + ask(*FLAGS, *line)[3:]


def is_right(tokens):
    """Whether these tokens shrink to one unit; for few tokens, whose nesting can't be too deep."""
    text = " ".join(tokens)
    text = re.sub(r"\brank (\d) to (\d)\b", lambda m: "U" if m[1] <= m[2] <= "7" else "X", text)
    text = re.sub(r"\brank [0-7]\b|\b(from|before) \d\b|\ba\b|\btrue\b", "U", text)
    while True:
        shrunk = re.sub(r"not U|\( U \)|U and U|U or U", "U", text)
        if shrunk == text:
            return text == "U"
        text = shrunk


def goes_on(tokens):
    """Whether some right text begins with these tokens: at most a unit's end and brackets are missing."""
    for follower in FOLLOWERS:
        for closing in range(len(tokens) + 1):
            if is_right(list(tokens) + follower.split() + [")"] * closing):
                return True
    return False


def wrong_place(tokens, memory):
    """The place that the document's words give for these tokens with one blank between them; -1 if right."""
    if is_right(tokens):
        return -1
    for count in range(1, len(tokens) + 1):
        start = tokens[:count]
        if start not in memory:
            memory[start] = goes_on(start)
        if not memory[start]:
            return len(" ".join(start)) - len(start[-1])
    return len(" ".join(tokens))


class PlacesOfShortTexts(unittest.TestCase):
    def check(self, rows):
        memory = {}
        found = formed_all([" ".join(tokens) for tokens in rows])
        for tokens, answer in zip(rows, found):
            place = wrong_place(tokens, memory)
            want = 0 if place < 0 else -1000 - place
            self.assertEqual(answer[0], want, tokens)

    def test_all_of_up_to_three_tokens(self):
        for count in range(4):
            self.check(list(itertools.product(VOCABULARY, repeat=count)))

    def test_many_longer_ones_that_begin_well(self):
        chance = random.Random(5)
        memory = {}
        rows = []
        while len(rows) < 1500:
            tokens = ()
            while len(tokens) < 10:
                longer = tokens + (chance.choice(VOCABULARY),)
                if longer not in memory:
                    memory[longer] = goes_on(longer)
                if memory[longer]:
                    tokens = longer
                elif chance.random() < 0.02:
                    tokens = longer
                    break
                if chance.random() < 0.03:
                    break
            rows.append(tokens)
        self.check(rows)


def written_by_python(node):
    """How the document writes the condition that Python read; the kind of its outermost part, and its text."""
    if isinstance(node, ast.Name):
        return "unit", node.id.replace("_", " ")
    if isinstance(node, ast.UnaryOp):
        kind, text = written_by_python(node.operand)
        return "not", "not " + (f"({text})" if kind in ("and", "or") else text)
    joint = "and" if isinstance(node.op, ast.And) else "or"
    kind, text = written_by_python(node.values[0])
    if joint == "and" and kind == "or":
        text = f"({text})"
    for value in node.values[1:]:
        kind, right = written_by_python(value)
        if kind == "or" or (kind == "and" and joint == "and"):
            right = f"({right})"
        text = f"{text} {joint} {right}"
    return joint, text


def random_text(chance, depth):
    pick = chance.randrange(9) if depth > 0 else 8
    if pick < 2:
        return "not " + random_unit(chance, depth - 1)
    if pick < 7:
        joint = chance.choice((" and ", " or "))
        return joint.join([random_unit(chance, depth - 1) for number in range(chance.randrange(2, 4))])
    return chance.choice(("a", "b", "c", "true", "false", "from_70", "before_0", "rank_3", "rank_3_to_6"))


def random_unit(chance, depth):
    text = random_text(chance, depth)
    return f"({text})" if chance.random() < 0.6 else text


class WrittenAsPythonReadsIt(unittest.TestCase):
    def test_many_texts(self):
        chance = random.Random(9)
        texts = [random_text(chance, 4) for number in range(3000)]
        found = formed_all([text.replace("_", " ") for text in texts])
        fitting = 0
        for text, answer in zip(texts, found):
            # Each plain unit is one name to Python: "from_70" stands for "from 70".
            written = written_by_python(ast.parse(text, mode="eval").body)[1]
            if len(written) > 200:
                self.assertEqual(answer, [-20000], text)
            else:
                fitting += 1
                self.assertEqual(answer, told(written), text)
        self.assertGreater(fitting, 1000)

    def test_the_written_form_stays(self):
        chance = random.Random(10)
        texts = [random_text(chance, 3).replace("_", " ") for number in range(1000)]
        first = [answer for answer in formed_all(texts) if answer[0] == 0]
        self.assertEqual(formed_all([answer[1:] for answer in first]), first)


if __name__ == "__main__":
    unittest.main()
