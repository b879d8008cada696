"""Promises 6, 7 and 8: name, learn and facts."""

import unittest

from tests.helper import GREATEST_KEY, LAST_DAY, NO_DAYS, NO_KEYS, NO_RANKS, NO_VALUES, ask, ask_last, edition, facts
from tests.helper import flag, learn, letter_words, name, rule

FLAGS = [flag(1, "a"), flag(2, "b"), flag(3, "c")]


class NameIsThere(unittest.TestCase):
    def test_ordinary(self):
        self.assertEqual(ask(name(4, 100, 3), facts(4)), [[0], [0]])

    def test_least_and_greatest_key_day_and_rank(self):
        calls = [name(1, 0, 0), name(GREATEST_KEY, LAST_DAY, 7), facts(1), facts(GREATEST_KEY)]
        self.assertEqual(ask(*calls), [[0]] * 4)

    def test_keys_are_apart_from_the_other_kinds(self):
        self.assertEqual(ask(flag(1, "a"), rule(1), edition(1, 1), name(1), facts(1)), [[0]] * 5)


class NameIsRefused(unittest.TestCase):
    def test_no_key(self):
        for key in NO_KEYS:
            self.assertEqual(ask(name(key), facts(key)), [[-1], [-1]], key)

    def test_no_day(self):
        for day in NO_DAYS:
            self.assertEqual(ask(name(1, day), facts(1)), [[-2], [-1]], day)

    def test_no_rank(self):
        for rank in NO_RANKS:
            self.assertEqual(ask(name(1, 0, rank), facts(1)), [[-3], [-1]], rank)

    def test_key_is_taken(self):
        calls = FLAGS + [name(1), learn(1, 2, 1), name(1, 5, 5), facts(1)]
        self.assertEqual(ask(*calls)[-2:], [[-4], [1, 2, 1]])

    def test_there_are_100(self):
        full = [name(key) for key in range(1, 101)]
        self.assertEqual(ask(*full), [[0]] * 100)
        self.assertEqual(ask(*full, name(101), facts(101))[-2:], [[-5], [-1]])

    def test_a_refused_name_takes_no_place(self):
        calls = [name(0), name(1, -1), name(1, 0, 8)] + [name(key) for key in range(1, 101)]
        self.assertEqual(ask(*calls), [[-1], [-2], [-3]] + [[0]] * 100)

    def test_order(self):
        self.assertEqual(ask_last(name(1), name(0, -1, -1)), [-1])
        self.assertEqual(ask_last(name(1), name(1, -1, -1)), [-2])
        self.assertEqual(ask_last(name(1), name(1, 0, -1)), [-3])
        full = [name(key) for key in range(1, 101)]
        self.assertEqual(ask_last(*full, name(0)), [-1])
        self.assertEqual(ask_last(*full, name(101, -1)), [-2])
        self.assertEqual(ask_last(*full, name(101, 0, -1)), [-3])
        self.assertEqual(ask_last(*full, name(100)), [-4])


class Learn(unittest.TestCase):
    def test_yes_and_no(self):
        calls = FLAGS + [name(9), learn(9, 1, 1), learn(9, 3, 0), facts(9)]
        self.assertEqual(ask(*calls)[-3:], [[0], [0], [2, 1, 1, 3, 0]])

    def test_of_that_name_alone(self):
        calls = FLAGS + [name(8), name(9), learn(9, 1, 1), facts(8), learn(8, 1, 0), facts(8), facts(9)]
        self.assertEqual(ask(*calls)[-4:], [[0], [0], [1, 1, 0], [1, 1, 1]])

    def test_no_name(self):
        for key in (LAST_DAY, 8, 1, 0, -1):
            self.assertEqual(ask_last(*FLAGS, name(9), learn(key, 1, 1)), [-1], key)

    def test_no_flag(self):
        for key in (4, 9, 0, -1, GREATEST_KEY):
            self.assertEqual(ask(*FLAGS, name(9), learn(9, key, 1), facts(9))[-2:], [[-2], [0]], key)

    def test_no_value(self):
        for value in NO_VALUES:
            self.assertEqual(ask(*FLAGS, name(9), learn(9, 1, value), facts(9))[-2:], [[-3], [0]], value)

    def test_known_already(self):
        for known in (0, 1):
            for value in (0, 1):
                calls = FLAGS + [name(9), learn(9, 2, known), learn(9, 2, value), facts(9)]
                self.assertEqual(ask(*calls)[-2:], [[-4], [1, 2, known]], (known, value))

    def test_order(self):
        there = FLAGS + [name(9), learn(9, 1, 1)]
        self.assertEqual(ask_last(*there, learn(8, 4, 2)), [-1])
        self.assertEqual(ask_last(*there, learn(9, 4, 2)), [-2])
        self.assertEqual(ask_last(*there, learn(9, 1, 2)), [-3])
        self.assertEqual(ask_last(*there, learn(9, 1, 1)), [-4])


class Facts(unittest.TestCase):
    def test_none(self):
        self.assertEqual(ask(name(1), facts(1)), [[0], [0]])

    def test_by_flags_keys_ascending(self):
        flags = [flag(30, "a"), flag(4, "b"), flag(GREATEST_KEY, "c"), flag(200, "d")]
        learned = [learn(1, 200, 0), learn(1, 30, 1), learn(1, GREATEST_KEY, 0), learn(1, 4, 1)]
        self.assertEqual(ask_last(*flags, name(1), *learned, facts(1)), [4, 4, 1, 30, 1, 200, 0, GREATEST_KEY, 0])

    def test_of_all_24_flags(self):
        words = letter_words(24)
        flags = [flag(24 - number, words[number]) for number in range(24)]
        learned = [learn(1, (number * 7) % 24 + 1, number % 2) for number in range(24)]
        want = [24]
        for key in range(1, 25):
            value = [number % 2 for number in range(24) if (number * 7) % 24 + 1 == key][0]
            want += [key, value]
        self.assertEqual(ask_last(*flags, name(1), *learned, facts(1)), want)

    def test_no_such_name(self):
        for key in NO_KEYS + (2, 3):
            self.assertEqual(ask(*FLAGS, name(1), facts(key))[-1], [-1], key)

    def test_between_learning(self):
        calls = FLAGS + [name(1), facts(1), learn(1, 2, 0), facts(1), learn(1, 1, 1), facts(1), facts(1)]
        self.assertEqual(ask(*calls)[4::2], [[0], [1, 2, 0], [2, 1, 1, 2, 0]])
        self.assertEqual(ask(*calls)[-1], [2, 1, 1, 2, 0])


if __name__ == "__main__":
    unittest.main()
