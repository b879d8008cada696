"""Promises 11 and 12: sure and settle."""

import unittest

from tests.helper import GREATEST_KEY, LAST_DAY, NO_DAYS, NO_KEYS, NO_VALUES, ask, ask_last, edition, flag, learn
from tests.helper import letter_flags, name, rule, settle, status, sure

LETTERS = "abcdefghijkl"
FLAGS = letter_flags(LETTERS)


def case(text, facts=()):
    """A name, key 1, with these facts by letters, and an edition with one rule of this condition."""
    learned = [learn(1, LETTERS.index(letter) + 1, value) for letter, value in facts]
    return FLAGS + [rule(7, text), edition(5, 0, [7]), name(1, 50, 3)] + learned


class Sure(unittest.TestCase):
    def assert_sure(self, text, want, facts=()):
        self.assertEqual(ask_last(*case(text, facts), sure(1, 60)), [want], (text, facts))

    def test_nothing_unknown(self):
        self.assert_sure("true", 1)
        self.assert_sure("false", 0)
        self.assert_sure("from 50", 1)
        self.assert_sure("rank 4", 0)
        self.assert_sure("a and not b", 1, [("a", 1), ("b", 0)])
        self.assert_sure("a and not b", 0, [("a", 1), ("b", 1)])

    def test_some_ways_and_not_others(self):
        self.assert_sure("a", 2)
        self.assert_sure("a and b", 2)
        self.assert_sure("a and b", 2, [("a", 1)])
        self.assert_sure("a or b", 2, [("a", 0)])

    def test_facts_that_decide(self):
        self.assert_sure("a and b", 0, [("a", 0)])
        self.assert_sure("a or b", 1, [("a", 1)])

    def test_the_same_in_every_way_though_the_status_is_open(self):
        self.assert_sure("a or not a", 1)
        self.assert_sure("a and not a", 0)
        self.assert_sure("a and b or not a or not b", 1)
        self.assert_sure("(a or b) and not a and not b", 0)
        self.assertEqual(ask_last(*case("a or not a"), status(1, 60))[0], 2)

    def test_one_way_among_1024(self):
        self.assert_sure(" and ".join(LETTERS[:10]), 2)
        self.assert_sure("not (" + " or ".join(LETTERS[:10]) + ")", 2)
        self.assert_sure(" or ".join(LETTERS[:10]) + " or not a", 1)
        self.assert_sure(" and ".join(LETTERS[:10]) + " and not e", 0)

    def test_rules_of_one_edition_that_exclude_one_another(self):
        there = FLAGS + [rule(7, "a"), rule(8, "not a"), rule(9, "b or not b"), name(1)]
        self.assertEqual(ask_last(*there, edition(5, 0, [7, 8]), sure(1, 0)), [0])
        self.assertEqual(ask_last(*there, edition(5, 0, [7, 9]), sure(1, 0)), [2])
        self.assertEqual(ask_last(*there, edition(5, 0, [9]), sure(1, 0)), [1])

    def test_an_edition_without_rules(self):
        self.assertEqual(ask_last(edition(5, 0), name(1), sure(1, 0)), [1])

    def test_editions_that_keep_and_fill_up_what_the_other_leaves(self):
        for keeps, want in ((0, 2), (1, 1)):
            there = FLAGS + [rule(7, "a"), rule(8, "not a"), edition(5, 10, [7]), edition(6, 100, [8], keeps), name(1, 50)]
            self.assertEqual(ask_last(*there, sure(1, 100)), [want])
            self.assertEqual(ask_last(*there, sure(1, 99)), [2])

    def test_keeping_by_the_names_day(self):
        there = FLAGS + [rule(7, "a"), rule(8, "not a"), edition(5, 10, [7]), edition(6, 100, [8], 1)]
        for day, want in ((0, 1), (99, 1), (100, 2), (101, 2)):
            self.assertEqual(ask_last(*there, name(1, day), sure(1, 200)), [want], day)

    def test_keeping_with_none_earlier(self):
        there = FLAGS + [rule(7, "a and not a"), edition(5, 100, [7], 1), name(1, 50)]
        self.assertEqual(ask_last(*there, sure(1, 100)), [0])

    def test_a_chain_of_several(self):
        rules = [rule(7, "a and b"), rule(8, "a and not b"), rule(9, "not a and b"), rule(10, "not (a or b)")]
        chain = [edition(key, key * 10, [key], 1) for key in (7, 8, 9, 10)]
        asked = [sure(1, view) for view in (70, 80, 90, 99, 100)]
        self.assertEqual(ask(*FLAGS, *rules, *chain, name(1), *asked)[-5:], [[2], [2], [2], [2], [1]])
        self.assertEqual(ask_last(*FLAGS, *rules, *chain, name(1, 70), sure(1, 100)), [1])
        self.assertEqual(ask_last(*FLAGS, *rules, *chain, name(1, 80), sure(1, 100)), [2])

    def test_days_and_ranks_of_the_name(self):
        there = FLAGS + [rule(7, "a or not a and rank 3 and before 51", 50, 50, 3, 3), edition(5, 0, [7])]
        self.assertEqual(ask_last(*there, name(1, 50, 3), sure(1, 60)), [1])
        self.assertEqual(ask_last(*there, name(1, 51, 3), sure(1, 60)), [1])
        there = FLAGS + [rule(7, "a and rank 3", 50, 50, 3, 4), edition(5, 0, [7])]
        self.assertEqual(ask_last(*there, name(1, 50, 3), sure(1, 60)), [2])
        self.assertEqual(ask_last(*there, name(1, 50, 4), sure(1, 60)), [0])
        self.assertEqual(ask_last(*there, name(1, 50, 5), sure(1, 60)), [1])
        self.assertEqual(ask_last(*there, name(1, 49, 3), sure(1, 60)), [1])


def unknown_case(count, known=0):
    """As many flags in one rule, of which the first few are known."""
    learned = [(letter, 1) for letter in LETTERS[:known]]
    return case(" and ".join(LETTERS[:count]), learned)


class UnknownFlags(unittest.TestCase):
    """How many there are is seen by what's refused."""

    def test_10_and_11_for_sure(self):
        self.assertEqual(ask_last(*unknown_case(10), sure(1, 60)), [2])
        self.assertEqual(ask_last(*unknown_case(11), sure(1, 60)), [-5])
        self.assertEqual(ask_last(*unknown_case(11, 1), sure(1, 60)), [2])
        self.assertEqual(ask_last(*unknown_case(12, 1), sure(1, 60)), [-5])

    def test_6_and_7_for_settle(self):
        six = [6, 1, 1, 2, 1, 3, 1, 4, 1, 5, 1, 6, 1]
        self.assertEqual(ask_last(*unknown_case(6), settle(1, 60, 1)), six)
        self.assertEqual(ask_last(*unknown_case(7), settle(1, 60, 1)), [-6])
        self.assertEqual(ask_last(*unknown_case(7), settle(1, 60, 0)), [-6])
        self.assertEqual(ask_last(*unknown_case(7, 1), settle(1, 60, 1)), [6, 2, 1, 3, 1, 4, 1, 5, 1, 6, 1, 7, 1])
        self.assertEqual(ask_last(*unknown_case(8, 1), settle(1, 60, 1)), [-6])

    def test_flags_that_cannot_matter_count(self):
        useless = "false and (" + " or ".join(LETTERS[:11]) + ")"
        self.assertEqual(ask_last(*case(useless), sure(1, 60)), [-5])
        self.assertEqual(ask_last(*case(useless, [("c", 0)]), sure(1, 60)), [0])
        other_day = "before 50 and (" + " or ".join(LETTERS[:7]) + ")"
        self.assertEqual(ask_last(*case(other_day), settle(1, 60, 0)), [-6])
        self.assertEqual(ask_last(*case(other_day, [("a", 1)]), settle(1, 60, 0)), [0])
        decided = " or ".join(LETTERS)
        self.assertEqual(ask_last(*case(decided, [("a", 1)]), sure(1, 60)), [-5])
        self.assertEqual(ask_last(*case(decided, [("a", 1), ("b", 0)]), sure(1, 60)), [1])

    def test_flags_count_whatever_other_rules_say(self):
        there = unknown_case(11) + [rule(8, "false"), edition(6, 20, [8, 7])]
        self.assertEqual(ask_last(*there, sure(1, 60)), [-5])

    def test_flags_of_rules_that_do_not_speak_do_not_count(self):
        text = " or ".join(LETTERS)
        for silent in (rule(7, text, first=51), rule(7, text, last=49), rule(7, text, lo=4), rule(7, text, hi=2)):
            there = FLAGS + [silent, rule(8, "a"), edition(5, 0, [7, 8]), name(1, 50, 3)]
            self.assertEqual(ask_last(*there, sure(1, 60)), [2], silent[:6])
            self.assertEqual(ask_last(*there, settle(1, 60, 0)), [1, 1, 0], silent[:6])
        for speaking in (rule(7, text, first=50), rule(7, text, last=50), rule(7, text, lo=3), rule(7, text, hi=3)):
            there = FLAGS + [speaking, edition(5, 0, [7]), name(1, 50, 3)]
            self.assertEqual(ask_last(*there, sure(1, 60)), [-5], speaking[:6])

    def test_each_flag_counts_once(self):
        text = " or ".join(LETTERS[:10] * 2)
        there = FLAGS + [rule(7, text), rule(8, text), edition(5, 0, [7, 8]), edition(6, 60, [7], 1), name(1, 50)]
        self.assertEqual(ask_last(*there, sure(1, 60)), [2])

    def test_flags_of_editions_that_are_looked_at(self):
        first, second = " or ".join(LETTERS[:6]), " or ".join(LETTERS[5:11])
        there = FLAGS + [rule(7, first), rule(8, second), rule(9), edition(5, 10, [7]), edition(6, 20, [8], 1)]
        for day, want in ((0, [-5]), (19, [-5]), (20, [2]), (21, [2])):
            self.assertEqual(ask_last(*there, name(1, day), sure(1, 30)), want, day)
        self.assertEqual(ask_last(*there, name(1, 0), sure(1, 19)), [2])
        self.assertEqual(ask_last(*there, name(1, 0), edition(4, 30, [8]), sure(1, 30)), [2])

    def test_earlier_editions_count_though_the_later_one_decides(self):
        there = FLAGS + [rule(7, " or ".join(LETTERS[:11])), edition(5, 10, [7]), edition(6, 20, keeps=1), name(1)]
        self.assertEqual(ask_last(*there, sure(1, 20)), [-5])
        self.assertEqual(ask_last(*there, settle(1, 20, 1)), [-6])
        self.assertEqual(ask_last(*there, learn(1, 4, 0), sure(1, 20)), [1])

    def test_a_chain_of_several(self):
        rules = [rule(key, LETTERS[key - 1]) for key in range(1, 12)]
        chain = [edition(key, key * 10, [key], 1) for key in range(1, 12)]
        there = FLAGS + rules + chain
        self.assertEqual(ask_last(*there, name(1, 0), sure(1, 109)), [2])
        self.assertEqual(ask_last(*there, name(1, 0), sure(1, 110)), [-5])
        self.assertEqual(ask_last(*there, name(1, 19), sure(1, 110)), [-5])
        self.assertEqual(ask_last(*there, name(1, 20), sure(1, 110)), [2])

    def test_facts_learned_between(self):
        calls = unknown_case(12) + [sure(1, 60), learn(1, 1, 1), sure(1, 60), learn(1, 2, 1), sure(1, 60), learn(1, 3, 0), sure(1, 60)]
        self.assertEqual(ask(*calls)[-7::2], [[-5], [-5], [2], [0]])


class Settle(unittest.TestCase):
    def assert_settled(self, text, want, answer, facts=()):
        self.assertEqual(ask_last(*case(text, facts), settle(1, 60, want)), answer, (text, want, facts))

    def test_so_already(self):
        self.assert_settled("true", 1, [0])
        self.assert_settled("false", 0, [0])
        self.assert_settled("a or not a", 1, [0])
        self.assert_settled("a and b and not a", 0, [0])
        self.assert_settled("a or b", 1, [0], [("b", 1)])

    def test_no_such_list(self):
        self.assert_settled("true", 0, [-7])
        self.assert_settled("false", 1, [-7])
        self.assert_settled("a or not a", 0, [-7])
        self.assert_settled("a and b and not a", 1, [-7])
        self.assert_settled("a and b", 1, [-7], [("a", 0)])

    def test_one_fact(self):
        self.assert_settled("a", 1, [1, 1, 1])
        self.assert_settled("a", 0, [1, 1, 0])
        self.assert_settled("not a", 1, [1, 1, 0])
        self.assert_settled("not a", 0, [1, 1, 1])

    def test_the_fewest(self):
        self.assert_settled("a and b or c", 1, [1, 3, 1])
        self.assert_settled("a and b or c", 0, [2, 1, 0, 3, 0])
        self.assert_settled("a and b and c or d and e or f", 1, [1, 6, 1])
        self.assert_settled("a and b and c or d and e and f or b and f", 1, [2, 2, 1, 6, 1])
        self.assert_settled("(a or b or c) and (d or e) and f", 0, [1, 6, 0])

    def test_all_six(self):
        text = "not (a or not b or c or not d or e or not f)"
        self.assert_settled(text, 1, [6, 1, 0, 2, 1, 3, 0, 4, 1, 5, 0, 6, 1])
        self.assert_settled(text, 0, [1, 1, 1])

    def test_the_lesser_key_is_first(self):
        self.assert_settled("a or b or c", 1, [1, 1, 1])
        self.assert_settled("c or b or a", 1, [1, 1, 1])
        self.assert_settled("b and c or a and d", 1, [2, 1, 1, 4, 1])
        self.assert_settled("a and d or a and c", 1, [2, 1, 1, 3, 1])
        self.assert_settled("c and d or b and f or b and e", 1, [2, 2, 1, 5, 1])

    def test_value_0_is_first(self):
        self.assert_settled("a and b or not a and c", 1, [2, 1, 0, 3, 1])
        self.assert_settled("a and b or not a and not b", 1, [2, 1, 0, 2, 0])
        self.assert_settled("a and b or not a and not b", 0, [2, 1, 0, 2, 1])
        self.assert_settled("a and b or a and not c", 1, [2, 1, 1, 2, 1])

    def test_the_flag_counts_ahead_of_the_value(self):
        self.assert_settled("a or not b", 1, [1, 1, 1])
        self.assert_settled("a and b or a and not b and c or not c and d", 1, [2, 1, 1, 2, 1])
        self.assert_settled("a and c or a and not d", 1, [2, 1, 1, 3, 1])
        self.assert_settled("a and c or not a and d", 1, [2, 1, 0, 4, 1])

    def test_by_keys_not_by_when_they_came_or_their_texts(self):
        flags = [flag(90, "a"), flag(GREATEST_KEY, "b"), flag(1, "z"), flag(40, "m")]
        there = flags + [rule(7, "a or b or z or m"), rule(8, "a and b or m and b"), edition(5, 0, [7]), edition(6, 9, [8]), name(1)]
        self.assertEqual(ask_last(*there, settle(1, 0, 1)), [1, 1, 1])
        self.assertEqual(ask_last(*there, settle(1, 0, 0)), [4, 1, 0, 40, 0, 90, 0, GREATEST_KEY, 0])
        self.assertEqual(ask_last(*there, settle(1, 9, 1)), [2, 40, 1, GREATEST_KEY, 1])
        self.assertEqual(ask_last(*there, settle(1, 9, 0)), [1, GREATEST_KEY, 0])

    def test_with_facts_known(self):
        self.assert_settled("a and b or c", 1, [1, 2, 1], [("a", 1)])
        self.assert_settled("a and b or c", 1, [1, 3, 1], [("a", 0)])
        self.assert_settled("a and b or c", 0, [1, 3, 0], [("a", 0)])
        self.assert_settled("a and b or c", 0, [2, 2, 0, 3, 0], [("a", 1)])

    def test_flags_that_cannot_matter_are_not_told(self):
        self.assert_settled("(a or true) and b", 1, [1, 2, 1])
        self.assert_settled("a and before 50 or b", 0, [1, 2, 0])

    def test_editions_that_keep(self):
        there = FLAGS + [rule(7, "a and b"), rule(8, "c and d and e"), edition(5, 10, [7]), edition(6, 20, [8], 1)]
        self.assertEqual(ask_last(*there, name(1, 19), settle(1, 20, 1)), [2, 1, 1, 2, 1])
        self.assertEqual(ask_last(*there, name(1, 19), settle(1, 20, 0)), [2, 1, 0, 3, 0])
        self.assertEqual(ask_last(*there, name(1, 20), settle(1, 20, 1)), [3, 3, 1, 4, 1, 5, 1])
        self.assertEqual(ask_last(*there, name(1, 20), settle(1, 20, 0)), [1, 3, 0])

    def test_what_it_tells_does_settle_it(self):
        for want in (0, 1):
            there = case("(a or not b) and (c or d and not a) or e and f")
            answer = ask_last(*there, settle(1, 60, want))
            learned = [learn(1, answer[at], answer[at + 1]) for at in range(1, len(answer), 2)]
            self.assertEqual(ask_last(*there, *learned, sure(1, 60)), [want])
            self.assertEqual(ask_last(*there, *learned, settle(1, 60, want)), [0])
            self.assertEqual(ask_last(*there, *learned, settle(1, 60, 1 - want)), [-7])

    def test_it_learns_nothing(self):
        self.assertEqual(ask(*case("a"), settle(1, 60, 1), sure(1, 60), settle(1, 60, 1))[-3:], [[1, 1, 1], [2], [1, 1, 1]])


class Refused(unittest.TestCase):
    """Name 1 has more than enough unknown flags; edition 5 is of day 10."""

    THERE = FLAGS + [rule(7, " and ".join(LETTERS)), edition(5, 10, [7]), name(1, 50), name(2, 5)]

    def assert_both(self, name_key, view, refusal):
        self.assertEqual(ask_last(*self.THERE, sure(name_key, view)), [refusal], (name_key, view))
        for want in (0, 1, 2):
            self.assertEqual(ask_last(*self.THERE, settle(name_key, view, want)), [refusal], (name_key, view, want))

    def test_no_such_name(self):
        for key in NO_KEYS + (3, 5, 7):
            self.assert_both(key, 60, -1)

    def test_view_is_no_day(self):
        for view in NO_DAYS:
            self.assert_both(1, view, -2)

    def test_view_is_earlier_than_the_names_day(self):
        for view in (0, 9, 49):
            self.assert_both(1, view, -3)

    def test_no_edition_in_play(self):
        for view in (5, 9):
            self.assert_both(2, view, -4)

    def test_want_is_neither(self):
        for want in NO_VALUES:
            self.assertEqual(ask_last(*self.THERE, settle(1, 60, want)), [-5], want)
            self.assertEqual(ask_last(*case("a"), settle(1, 60, want)), [-5], want)

    def test_too_many_unknown(self):
        self.assertEqual(ask_last(*self.THERE, sure(1, 60)), [-5])
        self.assertEqual(ask_last(*self.THERE, settle(1, 60, 1)), [-6])
        self.assertEqual(ask_last(*self.THERE, sure(1, 50)), [-5])
        self.assertEqual(ask_last(*self.THERE, sure(2, LAST_DAY)), [-5])

    def test_the_one_told_first(self):
        for view in NO_DAYS:
            self.assert_both(3, view, -1)
        self.assert_both(3, 0, -1)
        self.assert_both(2, 4, -3)
        self.assert_both(1, -1, -2)
        self.assertEqual(ask_last(name(1, 9), sure(1, 8)), [-3])
        self.assertEqual(ask_last(name(1, 9), settle(1, 8, 7)), [-3])
        self.assertEqual(ask_last(name(1, 9), settle(1, 9, 7)), [-4])

    def test_too_many_unknown_comes_ahead_of_no_such_list(self):
        there = case("false and (" + " or ".join(LETTERS[:7]) + ")")
        self.assertEqual(ask_last(*there, settle(1, 60, 1)), [-6])
        self.assertEqual(ask_last(*there, learn(1, 1, 1), settle(1, 60, 1)), [-7])


if __name__ == "__main__":
    unittest.main()
