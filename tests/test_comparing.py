"""Promises 13, 14 and 15: compare, editions and core."""

import unittest

from tests.helper import GREATEST_KEY, LAST_DAY, NO_KEYS, ask, ask_last, compare, core, edition, editions, flag, learn
from tests.helper import letter_flags, name, rule

LETTERS = "abcdefghijkl"
FLAGS = letter_flags(LETTERS)
EQUAL = [3]


def compared(left, right):
    """Two rules, told as texts or as whole calls with the keys 7 and 8, compared."""
    first = rule(7, left) if isinstance(left, str) else left
    second = rule(8, right) if isinstance(right, str) else right
    return ask_last(*FLAGS, first, second, compare(7, 8))


class CompareCase(unittest.TestCase):
    def assert_compared(self, left, right, want):
        self.assertEqual(compared(left, right), want, (left, right))

    def assert_equal(self, left, right):
        self.assert_compared(left, right, EQUAL)


class CompareNumbers(CompareCase):
    def test_equal(self):
        self.assert_equal("a", "a")
        self.assert_equal("a and b", "b and a")
        self.assert_equal("not (a or b)", "not a and not b")
        self.assert_equal("a or not a", "true")
        self.assert_equal("b and not b", "false")
        self.assert_equal("from 0", "true")
        self.assert_equal("before 0", "false")
        self.assert_equal("not from 7", "before 7")
        self.assert_equal("rank 0 to 7", "true")
        self.assert_equal("rank 2 to 4", "rank 2 or rank 3 or rank 4")

    def test_a_rule_with_itself(self):
        self.assertEqual(ask_last(*FLAGS, rule(7, "a and rank 3"), compare(7, 7)), EQUAL)

    def test_left_within_right(self):
        self.assert_compared("a and b", "a", [1, 0, 0, 1, 1])
        self.assert_compared("false", "true", [1, 0, 0, 0])

    def test_right_within_left(self):
        self.assert_compared("a", "a and b", [2, 0, 0, 1, 1])
        self.assert_compared("true", "false", [2, 0, 0, 0])

    def test_neither(self):
        self.assert_compared("a", "b", [0, 0, 0, 1, 1, 0, 0, 1, 2])
        self.assert_compared("b", "a", [0, 0, 0, 1, 2, 0, 0, 1, 1])
        self.assert_compared("a", "not a", [0, 0, 0, 1, 1, 0, 0, 0])

    def test_facts_and_names_do_not_matter(self):
        calls = FLAGS + [rule(7, "a"), rule(8, "b"), name(1), learn(1, 1, 0), learn(1, 2, 1), compare(7, 8)]
        self.assertEqual(ask_last(*calls), [0, 0, 0, 1, 1, 0, 0, 1, 2])


class CompareDays(CompareCase):
    def test_day_0(self):
        self.assert_compared("before 1", "false", [2, 0, 0, 0])
        self.assert_compared("before 1", "true", [1, 1, 0, 0])

    def test_where_a_from_turns(self):
        self.assert_compared("from 50", "false", [2, 50, 0, 0])
        self.assert_compared("from 50", "from 51", [2, 50, 0, 0])
        self.assert_compared("from 51", "from 50", [1, 50, 0, 0])

    def test_where_a_before_turns(self):
        self.assert_compared("before 50", "true", [1, 50, 0, 0])
        self.assert_compared("before 51", "before 50", [2, 50, 0, 0])
        self.assert_compared("before 50", "from 60", [0, 0, 0, 0, 60, 0, 0])

    def test_where_a_rule_begins_and_ends(self):
        self.assert_compared("true", rule(8, "false", 50, 60), [2, 50, 0, 0])
        self.assert_compared(rule(7, "false", 0, 60), "false", [2, 61, 0, 0])
        self.assert_compared(rule(7, "false", 50, 60), rule(8, "false", 51, 60), [1, 50, 0, 0])
        self.assert_compared(rule(7, "false", 50, 60), rule(8, "false", 50, 59), [1, 60, 0, 0])
        self.assert_compared(rule(7, "false", 50, 60), rule(8, "false", 55, 70), [0, 61, 0, 0, 50, 0, 0])

    def test_a_single_day(self):
        self.assert_compared("true", rule(8, "false", 77, 77), [2, 77, 0, 0])
        self.assert_compared("from 77 and before 78", "false", [2, 77, 0, 0])
        self.assert_compared(rule(7, "before 78", 77, 99), rule(8, "false", 78, 99), EQUAL)

    def test_the_last_day(self):
        self.assert_compared("true", "before 1000000", [2, LAST_DAY, 0, 0])
        self.assert_compared("from 1000000", "false", [2, LAST_DAY, 0, 0])
        self.assert_compared("from 1000000", rule(8, "false", 0, LAST_DAY - 1), EQUAL)
        self.assert_compared("true", rule(8, "false", LAST_DAY, LAST_DAY), [2, LAST_DAY, 0, 0])

    def test_no_day_is_behind_the_last_one(self):
        self.assert_equal(rule(7, "false", 0, LAST_DAY), "false")
        self.assert_equal(rule(7, "a", 10, LAST_DAY), "a or before 10")

    def test_a_from_or_before_out_of_the_rules_days_does_not_turn(self):
        self.assert_equal(rule(7, "from 5", 10, 20), "true")
        self.assert_equal(rule(7, "before 21", 10, 20), "true")
        self.assert_equal(rule(7, "from 10 and before 21", 10, 20), rule(8, "true", 3, 3))

    def test_each_side_by_its_own_first_day(self):
        self.assert_compared("from 30 and a", "from 20 and b", [0, 30, 0, 1, 1, 20, 0, 1, 2])

    def test_the_least_day_counts_ahead_of_rank_and_flags(self):
        text = "before 10 and rank 7 and a and b or from 10 and rank 0 and not a"
        self.assert_compared(text, "false", [2, 0, 7, 2, 1, 2])
        self.assert_compared("from 10 and rank 7 and a or from 11", "false", [2, 10, 7, 1, 1])


class CompareRanks(CompareCase):
    def test_first_rank(self):
        for rank in range(8):
            self.assert_compared(f"rank {rank}", "false", [2, 0, rank, 0])
            self.assert_compared(f"rank {rank} to 7", "false", [2, 0, rank, 0])

    def test_first_rank_outside(self):
        self.assert_compared("rank 0 to 3", "true", [1, 0, 4, 0])
        self.assert_compared("rank 0 to 6", "true", [1, 0, 7, 0])

    def test_lowest_and_highest_rank_of_a_rule(self):
        self.assert_compared("true", rule(8, "false", lo=3, hi=5), [2, 0, 3, 0])
        self.assert_compared(rule(7, "false", lo=0, hi=5), "false", [2, 0, 6, 0])
        self.assert_compared(rule(7, "false", lo=2, hi=5), rule(8, "false", lo=3, hi=6), [0, 0, 6, 0, 0, 2, 0])
        self.assert_equal(rule(7, "false", lo=2, hi=5), "rank 0 to 1 or rank 6 to 7")

    def test_several_of_one_day_that_differ_in_ranks_alone(self):
        self.assert_compared("rank 2 or rank 5 or rank 7", "rank 5", [2, 0, 2, 0])
        self.assert_compared("rank 2 or rank 5 or rank 7", "rank 0 to 5", [0, 0, 7, 0, 0, 0, 0])

    def test_the_rank_counts_ahead_of_flags(self):
        self.assert_compared("rank 3 and not a or rank 2 and a and b and c", "false", [2, 0, 2, 3, 1, 2, 3])


class CompareFlags(CompareCase):
    def test_several_of_one_day_that_differ_in_flags_alone(self):
        self.assert_compared("a or b", "false", [2, 0, 0, 1, 2])
        self.assert_compared("a or b or c", "false", [2, 0, 0, 1, 3])
        self.assert_compared("a and b or b and c", "false", [2, 0, 0, 2, 2, 3])
        self.assert_compared("a and not b or a and c", "false", [2, 0, 0, 1, 1])

    def test_the_least_key_weighs_most(self):
        self.assert_compared("a and not b and not c or not a and b and c", "false", [2, 0, 0, 2, 2, 3])
        self.assert_compared("a and b and not c or a and not b and c", "false", [2, 0, 0, 2, 1, 3])

    def test_by_keys_not_by_when_they_came_or_their_texts(self):
        flags = [flag(90, "a"), flag(GREATEST_KEY, "b"), flag(1, "z"), flag(40, "m")]
        there = flags + [rule(7, "a or b or z or m"), rule(8, "false"), rule(9, "z and a and b or z and a and m")]
        self.assertEqual(ask_last(*there, compare(7, 8)), [2, 0, 0, 1, GREATEST_KEY])
        self.assertEqual(ask_last(*there, compare(9, 8)), [2, 0, 0, 3, 1, 90, GREATEST_KEY])
        self.assertEqual(ask_last(*there, compare(9, 7)), [1, 0, 0, 1, GREATEST_KEY])

    def test_keys_that_are_yes_are_ascending(self):
        flags = [flag(90, "a"), flag(GREATEST_KEY, "b"), flag(1, "z"), flag(40, "m")]
        there = flags + [rule(7, "a and b and z and m"), rule(8, "false")]
        self.assertEqual(ask_last(*there, compare(7, 8)), [2, 0, 0, 4, 1, 40, 90, GREATEST_KEY])

    def test_flags_that_cannot_matter_are_no(self):
        self.assert_compared("(a or not a) and b", "c and false", [2, 0, 0, 1, 2])

    def test_flags_of_other_rules_are_not_looked_at(self):
        there = FLAGS + [rule(6, "a and b and c"), rule(7, "d"), rule(8, "e")]
        self.assertEqual(ask_last(*there, compare(7, 8)), [0, 0, 0, 1, 4, 0, 0, 1, 5])

    def test_eight_flags_at_once(self):
        all_eight = " and ".join(LETTERS[:8])
        self.assert_compared(all_eight, "false", [2, 0, 0, 8, 1, 2, 3, 4, 5, 6, 7, 8])
        self.assert_compared("from 5 and rank 7 and " + all_eight, "false", [2, 5, 7, 8, 1, 2, 3, 4, 5, 6, 7, 8])
        self.assert_compared("not (" + all_eight + ")", "true", [1, 0, 0, 8, 1, 2, 3, 4, 5, 6, 7, 8])
        self.assert_compared("rank 0 to 6 or not (" + all_eight + ")", "true", [1, 0, 7, 8, 1, 2, 3, 4, 5, 6, 7, 8])

    def test_8_and_9_flags(self):
        left, right = " or ".join(LETTERS[:5]), " or ".join(LETTERS[4:8])
        self.assert_compared(left, right, [0, 0, 0, 1, 4, 0, 0, 1, 8])
        self.assert_compared(left, right + " or i", [-3])
        self.assert_compared(" or ".join(LETTERS[:9]), "true", [-3])
        self.assert_compared("true", " or ".join(LETTERS[:9]), [-3])
        self.assert_compared(" or ".join(LETTERS[:8]), " and ".join(LETTERS[:8]), [2, 0, 0, 1, 8])

    def test_flags_count_though_they_cannot_matter(self):
        self.assert_compared("false and (" + " or ".join(LETTERS[:9]) + ")", "true", [-3])
        self.assert_compared(rule(7, " or ".join(LETTERS[:9]), 5, 5, 5, 5), "true", [-3])
        self.assertEqual(ask_last(*FLAGS, rule(7, " or ".join(LETTERS[:9])), compare(7, 7)), [-3])
        self.assertEqual(ask_last(*FLAGS, rule(7, " or ".join(LETTERS[:8])), compare(7, 7)), EQUAL)


class CompareIsRefused(unittest.TestCase):
    THERE = FLAGS + [rule(7, " or ".join(LETTERS[:9])), edition(5, 0, [7])]

    def test_no_rule_a(self):
        for key in NO_KEYS + (1, 5, 8):
            self.assertEqual(ask_last(*self.THERE, compare(key, 7)), [-1], key)

    def test_no_rule_b(self):
        for key in NO_KEYS + (1, 5, 8):
            self.assertEqual(ask_last(*self.THERE, compare(7, key)), [-2], key)

    def test_the_one_told_first(self):
        self.assertEqual(ask_last(*self.THERE, compare(8, 8)), [-1])
        self.assertEqual(ask_last(*self.THERE, compare(8, 9)), [-1])
        self.assertEqual(ask_last(*self.THERE, compare(7, 7)), [-3])


class Editions(unittest.TestCase):
    RULES = FLAGS + [rule(1, "a"), rule(2, "b"), rule(3, "a and b"), rule(4, "false", 50, 60, 3, 5), rule(5, "from 9"), rule(6)]

    def compared(self, left, right, keeps=0):
        return ask_last(*self.RULES, edition(70, 100, left, keeps), edition(80, 200, right, keeps), editions(70, 80))

    def test_equal(self):
        self.assertEqual(self.compared([1, 2], [3]), EQUAL)
        self.assertEqual(self.compared([1, 2], [2, 1]), EQUAL)
        self.assertEqual(self.compared([3, 1], [3, 2, 6]), EQUAL)

    def test_with_itself(self):
        self.assertEqual(ask_last(*self.RULES, edition(7, 1, [4, 1]), editions(7, 7)), EQUAL)

    def test_without_rules(self):
        self.assertEqual(self.compared([], []), EQUAL)
        self.assertEqual(self.compared([], [6]), EQUAL)
        self.assertEqual(self.compared([], [1]), [2, 0, 0, 0])
        self.assertEqual(self.compared([1], []), [1, 0, 0, 0])
        self.assertEqual(self.compared([4], []), [1, 50, 3, 0])

    def test_within_one_another(self):
        self.assertEqual(self.compared([1, 2], [1]), [1, 0, 0, 1, 1])
        self.assertEqual(self.compared([2], [1, 2]), [2, 0, 0, 1, 2])
        self.assertEqual(self.compared([1, 4], [1]), [1, 50, 3, 1, 1])
        self.assertEqual(self.compared([5, 4], [5]), [1, 50, 3, 0])

    def test_neither(self):
        self.assertEqual(self.compared([1], [2]), [0, 0, 0, 1, 1, 0, 0, 1, 2])
        self.assertEqual(self.compared([4], [5]), [0, 0, 0, 0, 50, 3, 0])
        self.assertEqual(self.compared([5, 1], [4, 2]), [0, 9, 0, 1, 1, 0, 0, 1, 2])

    def test_what_editions_keep_does_not_matter(self):
        for left in ([], [1], [1, 2], [4, 5]):
            for right in ([], [2], [3], [5]):
                self.assertEqual(self.compared(left, right, 1), self.compared(left, right, 0))

    def test_the_later_one_may_be_told_first(self):
        there = self.RULES + [edition(70, 100, [1]), edition(80, 200, [3])]
        self.assertEqual(ask(*there, editions(70, 80), editions(80, 70))[-2:], [[2, 0, 0, 1, 1], [1, 0, 0, 1, 1]])

    def test_6_and_7_flags(self):
        rules = [rule(number + 1, LETTERS[number]) for number in range(8)]
        there = FLAGS + rules + [edition(1, 1, [1, 2, 3, 4]), edition(2, 2, [4, 5, 6]), edition(3, 3, [4, 5, 6, 7]), edition(4, 4, range(1, 8))]
        self.assertEqual(ask_last(*there, editions(1, 2)), [0, 0, 0, 4, 1, 2, 3, 4, 0, 0, 3, 4, 5, 6])
        self.assertEqual(ask_last(*there, editions(1, 3)), [-3])
        self.assertEqual(ask_last(*there, editions(3, 1)), [-3])
        self.assertEqual(ask_last(*there, editions(4, 4)), [-3])
        self.assertEqual(ask_last(*there, editions(3, 3)), EQUAL)

    def test_eight_rules_each(self):
        left = [rule(key, f"before {key * 10} or rank 1 to 7") for key in range(1, 9)]
        right = [rule(key, f"before {key * 10} or rank 0 to 6") for key in range(9, 17)]
        there = left + right + [edition(1, 1, range(1, 9)), edition(2, 2, range(9, 17))]
        self.assertEqual(ask_last(*there, editions(1, 2)), [0, 90, 7, 0, 10, 0, 0])

    def test_the_last_day(self):
        there = [rule(1, "before 1000000"), rule(2, "true"), edition(1, 1, [1]), edition(2, 2, [2])]
        self.assertEqual(ask_last(*there, editions(1, 2)), [1, LAST_DAY, 0, 0])

    def test_no_edition_a(self):
        for key in NO_KEYS + (1, 6, 71):
            self.assertEqual(ask_last(*self.RULES, edition(70, 1, [1]), editions(key, 70)), [-1], key)

    def test_no_edition_b(self):
        for key in NO_KEYS + (1, 6, 71):
            self.assertEqual(ask_last(*self.RULES, edition(70, 1, [1]), editions(70, key)), [-2], key)

    def test_the_one_told_first(self):
        there = FLAGS + [rule(1, " or ".join(LETTERS[:7])), edition(70, 1, [1])]
        self.assertEqual(ask_last(*there, editions(71, 72)), [-1])
        self.assertEqual(ask_last(*there, editions(71, 70)), [-1])
        self.assertEqual(ask_last(*there, editions(70, 71)), [-2])
        self.assertEqual(ask_last(*there, editions(70, 70)), [-3])


class Core(unittest.TestCase):
    def cored(self, *texts):
        """The core of an edition of these rules with the keys 1, 2, ..; each is a text, or what rule takes behind a key."""
        rules = [rule(place + 1, *([text] if isinstance(text, str) else text)) for place, text in enumerate(texts)]
        keys = list(range(len(texts), 0, -1))
        return ask_last(*FLAGS, *rules, edition(5, 0, keys), core(5))

    def test_nothing_to_leave_out(self):
        self.assertEqual(self.cored("a", "b", "c"), [3, 1, 2, 3])
        self.assertEqual(self.cored("a or b", "a or not b and c"), [2, 1, 2])

    def test_without_rules(self):
        self.assertEqual(self.cored(), [0])

    def test_one_of_two_equal_rules(self):
        self.assertEqual(self.cored("a", "a"), [1, 2])
        self.assertEqual(self.cored("a and b", "c", "b and a"), [2, 2, 3])
        self.assertEqual(self.cored("a", "a", "a", "a"), [1, 4])
        self.assertEqual(self.cored("false", "false"), [1, 2])

    def test_all_are_left_out(self):
        self.assertEqual(self.cored("true"), [0])
        self.assertEqual(self.cored("true", "a or not a", "from 0", "rank 0 to 7"), [0])
        self.assertEqual(self.cored(("from 5", 5, 9), ("rank 2", 0, 9, 2, 2)), [0])

    def test_said_by_one_other(self):
        self.assertEqual(self.cored("a", "a and b"), [1, 2])
        self.assertEqual(self.cored("a and b", "a"), [1, 1])
        self.assertEqual(self.cored("a or b", "c", "b"), [2, 2, 3])
        self.assertEqual(self.cored("a", "false"), [1, 2])
        self.assertEqual(self.cored("false", "a"), [1, 1])

    def test_said_by_two_others_together(self):
        self.assertEqual(self.cored("a and b", "a", "b"), [2, 2, 3])
        self.assertEqual(self.cored("a", "b", "a and b"), [1, 3])
        self.assertEqual(self.cored("not a or b", "not b or c", "not a or c"), [2, 1, 2])

    def test_those_left_out_no_longer_count(self):
        self.assertEqual(self.cored("a", "not a or b", "b", "not b or a"), [2, 3, 4])
        self.assertEqual(self.cored("a and not b or b and not a", "not (a and b)", "a or b"), [2, 2, 3])

    def test_days_and_ranks(self):
        self.assertEqual(self.cored(("a", 10, 20), ("a", 10, 20, 3, 3)), [1, 1])
        self.assertEqual(self.cored(("a", 10, 20, 3, 3), ("a", 10, 20)), [1, 2])
        self.assertEqual(self.cored(("a", 10, 20), ("a", 11, 21)), [2, 1, 2])
        self.assertEqual(self.cored(("a", 10, 20), ("a", 10, 14), ("a", 15, 20)), [2, 2, 3])
        self.assertEqual(self.cored(("a", 10, 20), ("a", 10, 14), ("a", 16, 20)), [1, 1])
        self.assertEqual(self.cored(("a", 0, 20, 0, 5), ("a", 0, 20, 5, 7), ("a", 0, 20)), [1, 3])

    def test_the_last_day(self):
        self.assertEqual(self.cored(("a", 0, LAST_DAY), ("a", 0, LAST_DAY - 1), ("a", LAST_DAY, LAST_DAY)), [2, 2, 3])
        self.assertEqual(self.cored(("a", 0, LAST_DAY), ("a", 0, LAST_DAY - 1)), [1, 1])

    def test_by_keys_not_by_the_order_in_the_edition(self):
        rules = [rule(GREATEST_KEY, "a"), rule(30, "a"), rule(4, "b"), rule(200, "a")]
        there = FLAGS + rules + [edition(5, 0, [200, 30, GREATEST_KEY, 4])]
        self.assertEqual(ask_last(*there, core(5)), [2, 4, GREATEST_KEY])

    def test_eight_rules(self):
        self.assertEqual(self.cored("a", "b", "c", "d", "a and b", "c and d", "a and b and c and d", "e or a"), [1, 7])

    def test_6_and_7_flags(self):
        self.assertEqual(self.cored("a or b", "c or d", "e or f", "e"), [3, 1, 2, 4])
        self.assertEqual(self.cored("a or b", "c or d", "e or f", "g"), [-2])
        self.assertEqual(self.cored(" or ".join(LETTERS[:7])), [-2])
        self.assertEqual(self.cored("false and (" + " or ".join(LETTERS[:7]) + ")"), [-2])
        self.assertEqual(self.cored(" or ".join(LETTERS[:6]), " or ".join(LETTERS[:6])), [1, 2])

    def test_no_such_edition(self):
        for key in NO_KEYS + (1, 4, 6):
            self.assertEqual(ask_last(*FLAGS, rule(1), edition(5, 0, [1]), core(key)), [-1], key)

    def test_it_takes_nothing_out(self):
        there = FLAGS + [rule(1, "a"), rule(2, "a"), edition(5, 0, [1, 2])]
        self.assertEqual(ask(*there, core(5), core(5), compare(1, 2))[-3:], [[1, 2], [1, 2], EQUAL])


if __name__ == "__main__":
    unittest.main()
