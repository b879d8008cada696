"""Promises 2 and 3: rule and text."""

import unittest

from tests.helper import GREATEST_KEY, LAST_DAY, NO_DAYS, NO_KEYS, NO_RANKS, ask, ask_last, edition, flag, form, name
from tests.helper import rule, text_of, told

# 40 units of one letter with " or " between them are 196 bytes written.
FLAG_A = flag(1, "a")
WRITTEN_196 = " or ".join(["a"] * 40)


class RuleIsThere(unittest.TestCase):
    def test_ordinary(self):
        calls = [flag(1, "seen"), rule(7, "seen and from 5", 3, 9, 2, 4), text_of(7)]
        self.assertEqual(ask(*calls), [[0], [0], told("seen and from 5")])

    def test_least_and_greatest_key(self):
        calls = [rule(1, "true"), rule(GREATEST_KEY, "false"), text_of(1), text_of(GREATEST_KEY)]
        self.assertEqual(ask(*calls), [[0], [0], told("true"), told("false")])

    def test_least_and_greatest_days(self):
        calls = [rule(1, first=0, last=0), rule(2, first=LAST_DAY, last=LAST_DAY), rule(3, first=0, last=LAST_DAY)]
        self.assertEqual(ask(*calls), [[0]] * 3)

    def test_least_and_greatest_ranks(self):
        self.assertEqual(ask(rule(1, lo=0, hi=0), rule(2, lo=7, hi=7), rule(3, lo=0, hi=7)), [[0]] * 3)

    def test_it_may_be_put_in_an_edition(self):
        self.assertEqual(ask(edition(1, 1, [7]), rule(7), edition(1, 1, [7])), [[-6], [0], [0]])

    def test_the_condition_stays_as_other_calls_come(self):
        calls = [FLAG_A, rule(1, "not a"), flag(2, "b"), rule(2, "b"), form("a or b"), text_of(1), text_of(2)]
        self.assertEqual(ask(*calls)[-2:], [told("not a"), told("b")])

    def test_keys_are_apart_from_the_other_kinds(self):
        calls = [flag(1, "a"), edition(1, 1), name(1), rule(1, "a"), text_of(1)]
        self.assertEqual(ask(*calls), [[0]] * 4 + [told("a")])


class RuleIsRefused(unittest.TestCase):
    def test_no_key(self):
        for key in NO_KEYS:
            self.assertEqual(ask(rule(key), text_of(key)), [[-1], [-1]], key)

    def test_no_day(self):
        for day in NO_DAYS:
            self.assertEqual(ask(rule(1, first=day), text_of(1)), [[-2], [-1]], day)
            self.assertEqual(ask(rule(1, last=day), text_of(1)), [[-2], [-1]], day)

    def test_first_later_than_last(self):
        self.assertEqual(ask(rule(1, first=6, last=5), rule(2, first=5, last=5)), [[-2], [0]])
        self.assertEqual(ask(rule(1, first=LAST_DAY, last=0)), [[-2]])

    def test_no_rank(self):
        for rank in NO_RANKS:
            self.assertEqual(ask(rule(1, lo=rank), text_of(1)), [[-3], [-1]], rank)
            self.assertEqual(ask(rule(1, hi=rank), text_of(1)), [[-3], [-1]], rank)

    def test_lo_higher_than_hi(self):
        self.assertEqual(ask(rule(1, lo=4, hi=3), rule(2, lo=3, hi=3)), [[-3], [0]])

    def test_key_is_taken(self):
        self.assertEqual(ask(rule(1, "true"), rule(1, "false"), text_of(1)), [[0], [-4], told("true")])

    def test_text_is_not_right(self):
        self.assertEqual(ask(rule(1, ""), text_of(1)), [[-1000], [-1]])
        self.assertEqual(ask(FLAG_A, rule(1, "a and or a"), text_of(1)), [[0], [-1006], [-1]])
        self.assertEqual(ask(FLAG_A, rule(1, "a and  "), text_of(1)), [[0], [-1007], [-1]])

    def test_flag_that_is_none(self):
        self.assertEqual(ask(FLAG_A, rule(1, "a or b or c"), text_of(1)), [[0], [-6005], [-1]])

    def test_written_condition_too_long(self):
        fits = "not " + WRITTEN_196
        self.assertEqual(ask(FLAG_A, rule(1, fits), text_of(1)), [[0], [0], told(fits)])
        longer = fits + " or a"
        self.assertEqual(ask(FLAG_A, rule(1, longer), text_of(1)), [[0], [-20000], [-1]])

    def test_written_condition_of_200_and_201(self):
        fits = WRITTEN_196[:-1] + "abcde"
        flags = [FLAG_A, flag(2, "abcde"), flag(3, "abcdef")]
        self.assertEqual(len(fits), 200)
        self.assertEqual(ask_last(*flags, rule(1, fits), text_of(1)), told(fits))
        self.assertEqual(ask_last(*flags, rule(1, fits + "f")), [-20000])

    def test_there_are_64(self):
        full = [rule(key + 1) for key in range(64)]
        self.assertEqual(ask(*full), [[0]] * 64)
        self.assertEqual(ask(*full, rule(65), text_of(65))[-2:], [[-5], [-1]])

    def test_a_refused_rule_takes_no_place(self):
        refused = [rule(0), rule(1, first=-1), rule(1, lo=-1), rule(1, "x"), rule(1, "(")]
        calls = refused + [rule(key + 1) for key in range(64)]
        self.assertEqual(ask(*calls), [[-1], [-2], [-3], [-6000], [-1001]] + [[0]] * 64)


class OrderOfRefusals(unittest.TestCase):
    def test_each_before_the_next(self):
        too_long = "a or " + WRITTEN_196
        self.assertEqual(ask_last(rule(0, "(", first=-1, lo=-1)), [-1])
        self.assertEqual(ask_last(rule(1), rule(1, "(", first=-1, lo=-1)), [-2])
        self.assertEqual(ask_last(rule(1), rule(1, "(", lo=-1)), [-3])
        self.assertEqual(ask_last(rule(1), rule(1, "(")), [-4])
        self.assertEqual(ask_last(rule(1), rule(1, "x")), [-4])
        self.assertEqual(ask_last(rule(2, "x or")), [-1004])
        self.assertEqual(ask_last(rule(2, "x or )")), [-1005])
        self.assertEqual(ask_last(FLAG_A, rule(2, too_long + " or")), [-1000 - len(too_long + " or")])
        self.assertEqual(ask_last(FLAG_A, rule(2, too_long + " or x")), [-6000 - len(too_long + " or ")])
        self.assertEqual(ask_last(FLAG_A, rule(2, too_long)), [-20000])

    def test_the_bound_of_64_comes_last(self):
        full = [FLAG_A] + [rule(key + 1) for key in range(64)]
        self.assertEqual(ask_last(*full, rule(0)), [-1])
        self.assertEqual(ask_last(*full, rule(65, first=2, last=1)), [-2])
        self.assertEqual(ask_last(*full, rule(65, lo=2, hi=1)), [-3])
        self.assertEqual(ask_last(*full, rule(64)), [-4])
        self.assertEqual(ask_last(*full, rule(65, "a a")), [-1002])
        self.assertEqual(ask_last(*full, rule(65, "a or x")), [-6005])
        self.assertEqual(ask_last(*full, rule(65, "a or " + WRITTEN_196)), [-20000])
        self.assertEqual(ask_last(*full, rule(65, "a")), [-5])


class TextOfRule(unittest.TestCase):
    def test_as_it_is_written(self):
        calls = [FLAG_A, rule(1, "  ((a)and(rank3to3))or not(from0or before1000000) "), text_of(1)]
        self.assertEqual(ask_last(*calls), told("a and rank 3 or not (from 0 or before 1000000)"))

    def test_there_is_none(self):
        for key in NO_KEYS + (2, GREATEST_KEY):
            self.assertEqual(ask(rule(1), text_of(key)), [[0], [-1]], key)

    def test_asked_twice(self):
        self.assertEqual(ask(rule(1), text_of(1), text_of(1)), [[0], told("true"), told("true")])


if __name__ == "__main__":
    unittest.main()
