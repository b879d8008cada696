"""Promise 1: flag."""

import unittest

from tests.helper import GREATEST_KEY, KEPT_WORDS, NO_KEYS, ask, ask_last, edition, flag, form, letter_words
from tests.helper import learn, name, rule, told


class FlagIsThere(unittest.TestCase):
    def test_ordinary(self):
        self.assertEqual(ask(flag(5, "published")), [[0]])

    def test_its_text_may_stand_in_conditions(self):
        self.assertEqual(ask(form("seen"), flag(5, "seen"), form("seen")), [[-6000], [0], told("seen")])

    def test_its_key_may_be_learned(self):
        self.assertEqual(ask(name(1), learn(1, 5, 1), flag(5, "seen"), learn(1, 5, 1)), [[0], [-2], [0], [0]])

    def test_least_and_greatest_key(self):
        calls = [flag(1, "a"), flag(GREATEST_KEY, "b"), name(1), learn(1, 1, 0), learn(1, GREATEST_KEY, 1)]
        self.assertEqual(ask(*calls), [[0]] * 5)

    def test_shortest_and_longest_text(self):
        calls = [flag(1, "z"), flag(2, "abcdefghijkl"), form("z"), form("abcdefghijkl")]
        self.assertEqual(ask(*calls), [[0], [0], told("z"), told("abcdefghijkl")])

    def test_words_that_only_hold_a_kept_word(self):
        for text in ("ands", "nota", "ranks", "top", "truer", "o", "t", "fals", "ando"):
            self.assertEqual(ask(flag(1, text), form(text)), [[0], told(text)], text)

    def test_keys_are_apart_from_the_other_kinds(self):
        calls = [rule(1), edition(1, 1), name(1), flag(1, "a"), learn(1, 1, 1)]
        self.assertEqual(ask(*calls), [[0]] * 5)


class FlagIsRefused(unittest.TestCase):
    def test_no_key(self):
        for key in NO_KEYS:
            self.assertEqual(ask(flag(key, "a"), form("a")), [[-1], [-6000]], key)

    def test_text_too_short_or_too_long(self):
        self.assertEqual(ask(flag(1, "")), [[-2]])
        self.assertEqual(ask(flag(1, "abcdefghijklm")), [[-2]])
        self.assertEqual(ask(flag(1, "a" * 4096)), [[-2]])

    def test_bytes_of_every_kind(self):
        for byte in range(256):
            want = 0 if 97 <= byte <= 122 else -2
            for text in ([byte], [byte, 98], [97, byte], [97, byte, 98]):
                self.assertEqual(ask(flag(1, text)), [[want]], text)

    def test_kept_words(self):
        for word in KEPT_WORDS:
            self.assertEqual(ask(flag(1, word)), [[-2]], word)

    def test_key_is_taken(self):
        self.assertEqual(ask(flag(1, "a"), flag(1, "b"), form("b")), [[0], [-3], [-6000]])

    def test_text_is_taken(self):
        calls = [flag(1, "a"), flag(2, "a"), name(9), learn(9, 2, 1), learn(9, 1, 1)]
        self.assertEqual(ask(*calls), [[0], [-4], [0], [-2], [0]])

    def test_there_are_24(self):
        words = letter_words(25)
        full = [flag(key + 1, words[key]) for key in range(24)]
        self.assertEqual(ask(*full), [[0]] * 24)
        self.assertEqual(ask_last(*full, flag(25, words[24])), [-5])
        self.assertEqual(ask(*full, flag(25, words[24]), form(words[24]))[-1], [-6000])

    def test_a_refused_flag_takes_no_place(self):
        words = letter_words(25)
        calls = [flag(0, "a"), flag(1, "and")] + [flag(key + 1, words[key]) for key in range(24)]
        self.assertEqual(ask(*calls), [[-1], [-2]] + [[0]] * 24)

    def test_a_refused_flag_leaves_key_and_text_free(self):
        calls = [flag(1, "a"), flag(2, "a"), flag(1, "b"), flag(2, "b"), form("a or b")]
        self.assertEqual(ask(*calls), [[0], [-4], [-3], [0], told("a or b")])


class OrderOfRefusals(unittest.TestCase):
    def test_each_before_the_next(self):
        words = letter_words(24)
        full = [flag(key + 1, words[key]) for key in range(24)]
        self.assertEqual(ask_last(flag(1, "a"), flag(0, "and")), [-1])
        self.assertEqual(ask_last(flag(1, "a"), flag(0, "a")), [-1])
        self.assertEqual(ask_last(flag(1, "a"), flag(1, "and")), [-2])
        self.assertEqual(ask_last(flag(1, "a"), flag(1, "a")), [-3])
        self.assertEqual(ask_last(*full, flag(0, "new")), [-1])
        self.assertEqual(ask_last(*full, flag(30, "")), [-2])
        self.assertEqual(ask_last(*full, flag(24, "new")), [-3])
        self.assertEqual(ask_last(*full, flag(30, words[0])), [-4])


if __name__ == "__main__":
    unittest.main()
