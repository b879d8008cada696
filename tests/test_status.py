"""Promises 10, 16 and 17: status, list_of and changes."""

import unittest

from tests.helper import GREATEST_KEY, GREATEST_NUMBER, LAST_DAY, LEAST_NUMBER, NO_DAYS, NO_KEYS, ask, ask_last, changes
from tests.helper import edition, flag, learn, letter_flags, list_of, name, rule, status

FLAGS = letter_flags("abcd")


def status_by(text, facts=(), day=50, rank=3):
    """The status answered of a name by an edition with one rule, key 7, of this condition."""
    learned = [learn(1, flag_key, value) for flag_key, value in facts]
    return ask_last(*FLAGS, rule(7, text), edition(5, 0, [7]), name(1, day, rank), *learned, status(1, LAST_DAY))


class ThreeValues(unittest.TestCase):
    def assert_word(self, text, word, facts=()):
        want = {"yes": [1, 5, 0, 0], "no": [0, 5, 1, 7, 0], "open": [2, 5, 0, 1, 7]}[word]
        self.assertEqual(status_by(text, facts), want, (text, facts))

    def test_plain_units(self):
        self.assert_word("true", "yes")
        self.assert_word("false", "no")
        self.assert_word("a", "open")
        self.assert_word("a", "yes", [(1, 1)])
        self.assert_word("a", "no", [(1, 0)])

    def test_facts_of_other_flags(self):
        self.assert_word("a", "open", [(2, 1), (3, 0)])

    def test_joints_of_all_pairs(self):
        units = {"yes": "a", "no": "b", "open": "c"}
        facts = [(1, 1), (2, 0)]
        for left, unit in units.items():
            self.assert_word("not " + unit, {"yes": "no", "no": "yes", "open": "open"}[left], facts)
            for right, other in units.items():
                pair = (left, right)
                word = "no" if "no" in pair else "yes" if pair == ("yes", "yes") else "open"
                self.assert_word(f"{unit} and {other}", word, facts)
                word = "yes" if "yes" in pair else "no" if pair == ("no", "no") else "open"
                self.assert_word(f"{unit} or {other}", word, facts)

    def test_open_stays_open_though_every_way_is_the_same(self):
        self.assert_word("a or not a", "open")
        self.assert_word("a and not a", "open")

    def test_not_before_and_before_or(self):
        self.assert_word("not a and b", "no", [(1, 0), (2, 0)])
        self.assert_word("not (a and b)", "yes", [(1, 0), (2, 0)])
        self.assert_word("a or b and c", "yes", [(1, 1), (2, 0), (3, 0)])
        self.assert_word("(a or b) and c", "no", [(1, 1), (2, 0), (3, 0)])

    def test_many_nots(self):
        self.assert_word("not " * 40 + "a", "yes", [(1, 1)])
        self.assert_word("not " * 39 + "a", "no", [(1, 1)])
        self.assert_word("not " * 39 + "a", "open")

    def test_long_chains(self):
        self.assert_word(" or ".join(["b"] * 39 + ["a"]), "yes", [(1, 1), (2, 0)])
        self.assert_word(" and ".join(["b"] * 32 + ["a"]), "no", [(1, 0), (2, 1)])


class DaysAndRanks(unittest.TestCase):
    def answered(self, text, day, rank=3):
        return status_by(text, day=day, rank=rank)[0]

    def test_from(self):
        self.assertEqual([self.answered("from 50", day) for day in (0, 49, 50, 51, LAST_DAY)], [0, 0, 1, 1, 1])
        self.assertEqual(self.answered("from 0", 0), 1)
        self.assertEqual([self.answered("from 1000000", day) for day in (LAST_DAY - 1, LAST_DAY)], [0, 1])

    def test_before(self):
        self.assertEqual([self.answered("before 50", day) for day in (0, 49, 50, 51, LAST_DAY)], [1, 1, 0, 0, 0])
        self.assertEqual(self.answered("before 0", 0), 0)
        self.assertEqual([self.answered("before 1000000", day) for day in (LAST_DAY - 1, LAST_DAY)], [1, 0])

    def test_rank(self):
        self.assertEqual([self.answered("rank 3", 5, rank) for rank in range(8)], [0, 0, 0, 1, 0, 0, 0, 0])
        self.assertEqual([self.answered("rank 2 to 4", 5, rank) for rank in range(8)], [0, 0, 1, 1, 1, 0, 0, 0])
        self.assertEqual([self.answered("rank 0 to 7", 5, rank) for rank in range(8)], [1] * 8)
        self.assertEqual([self.answered("not rank 7", 5, rank) for rank in range(8)], [1] * 7 + [0])

    def test_first_and_last_day_of_a_rule(self):
        for first, last in ((50, 60), (50, 50), (0, 0), (LAST_DAY, LAST_DAY), (0, LAST_DAY)):
            there = [rule(7, "false", first, last), edition(5, 0, [7])]
            for day in (0, 1, first - 1, first, first + 1, last - 1, last, last + 1, LAST_DAY):
                if 0 <= day <= LAST_DAY:
                    spoken = first <= day <= last
                    want = [0, 5, 1, 7, 0] if spoken else [1, 5, 0, 0]
                    self.assertEqual(ask_last(*there, name(1, day), status(1, LAST_DAY)), want, (first, last, day))

    def test_lowest_and_highest_rank_of_a_rule(self):
        for lo, hi in ((2, 5), (4, 4), (0, 0), (7, 7), (0, 7)):
            there = [rule(7, "false", lo=lo, hi=hi), edition(5, 0, [7])]
            for rank in range(8):
                want = [0, 5, 1, 7, 0] if lo <= rank <= hi else [1, 5, 0, 0]
                self.assertEqual(ask_last(*there, name(1, 9, rank), status(1, 9)), want, (lo, hi, rank))

    def test_the_rule_speaks_by_the_names_day_not_the_view_day(self):
        there = [rule(7, "false and from 0", 10, 20), edition(5, 0, [7]), name(1, 9), name(2, 20)]
        self.assertEqual(ask_last(*there, status(1, 15)), [1, 5, 0, 0])
        self.assertEqual(ask_last(*there, status(2, 500)), [0, 5, 1, 7, 0])


class Passing(unittest.TestCase):
    RULES = [rule(30, "a"), rule(4, "b"), rule(200, "false"), rule(GREATEST_KEY, "c"), rule(1, "not true"), rule(9)]

    def test_an_edition_without_rules(self):
        self.assertEqual(ask_last(edition(5, 0), name(1), status(1, 0)), [1, 5, 0, 0])
        self.assertEqual(ask_last(edition(5, 0, keeps=1), name(1), status(1, 0)), [1, 5, 0, 0])

    def test_no_before_open_before_yes(self):
        there = FLAGS + self.RULES + [name(1)]
        self.assertEqual(ask_last(*there, edition(5, 0, [9, 30, 200]), status(1, 0)), [0, 5, 1, 200, 1, 30])
        self.assertEqual(ask_last(*there, edition(5, 0, [9, 30]), status(1, 0)), [2, 5, 0, 1, 30])
        self.assertEqual(ask_last(*there, edition(5, 0, [9]), status(1, 0)), [1, 5, 0, 0])

    def test_both_lists_are_ascending(self):
        there = FLAGS + self.RULES + [edition(5, 0, [200, GREATEST_KEY, 30, 1, 9, 4]), name(1)]
        self.assertEqual(ask_last(*there, status(1, 0)), [0, 5, 2, 1, 200, 3, 4, 30, GREATEST_KEY])
        learned = [learn(1, 2, 0), learn(1, 1, 1)]
        self.assertEqual(ask_last(*there, *learned, status(1, 0)), [0, 5, 3, 1, 4, 200, 1, GREATEST_KEY])

    def test_facts_are_of_each_name(self):
        there = FLAGS + self.RULES + [edition(5, 0, [30]), name(1), name(2), name(3), learn(1, 1, 1), learn(2, 1, 0)]
        self.assertEqual(ask(*there, status(1, 0), status(2, 0), status(3, 0))[-3:], [[1, 5, 0, 0], [0, 5, 1, 30, 0], [2, 5, 0, 1, 30]])

    def test_eight_rules_and_one_of_them_fails(self):
        rules = [rule(key) for key in range(1, 8)] + [rule(8, "not a")]
        there = FLAGS + rules + [edition(5, 0, range(1, 9)), name(1), learn(1, 1, 1)]
        self.assertEqual(ask_last(*there, status(1, 0)), [0, 5, 1, 8, 0])


class InForce(unittest.TestCase):
    def test_before_the_names_day(self):
        there = [edition(5, 10), name(1, 100)]
        self.assertEqual(ask(*there, status(1, 99), status(1, 100), status(1, 0))[2:], [[3, 0, 0, 0], [1, 5, 0, 0], [3, 0, 0, 0]])

    def test_no_edition_in_play(self):
        there = [edition(5, 100), name(1, 10)]
        self.assertEqual(ask(*there, status(1, 10), status(1, 99), status(1, 100))[2:], [[4, 0, 0, 0], [4, 0, 0, 0], [1, 5, 0, 0]])
        self.assertEqual(ask_last(name(1), status(1, LAST_DAY)), [4, 0, 0, 0])

    def test_before_its_day_counts_ahead_of_no_edition(self):
        self.assertEqual(ask_last(name(1, 10), status(1, 9)), [3, 0, 0, 0])
        self.assertEqual(ask_last(edition(5, 20), name(1, 10), status(1, 9)), [3, 0, 0, 0])

    def test_the_latest_in_play_judges(self):
        there = [rule(7, "false"), edition(5, 10), edition(4, 20, [7]), edition(6, 30), name(1, 5)]
        asked = [status(1, view) for view in (9, 10, 19, 20, 29, 30)]
        want = [[4, 0, 0, 0], [1, 5, 0, 0], [1, 5, 0, 0], [0, 4, 1, 7, 0], [0, 4, 1, 7, 0], [1, 6, 0, 0]]
        self.assertEqual(ask(*there, *asked)[5:], want)

    def test_first_and_last_day(self):
        there = [edition(5, 0), edition(6, LAST_DAY), name(1, 0), name(2, LAST_DAY)]
        self.assertEqual(ask_last(*there, status(1, 0)), [1, 5, 0, 0])
        self.assertEqual(ask_last(*there, status(1, LAST_DAY)), [1, 6, 0, 0])
        self.assertEqual(ask_last(*there, status(2, LAST_DAY)), [1, 6, 0, 0])
        self.assertEqual(ask_last(*there, status(2, LAST_DAY - 1)), [3, 0, 0, 0])


class Keeping(unittest.TestCase):
    """Rule 1 is false, 2 true, 3 open."""

    RULES = FLAGS + [rule(1, "false"), rule(2, "true"), rule(3, "a")]
    FAILING = {1: [1, 1, 0], 2: [0, 0], 3: [0, 1, 3]}

    def test_name_earlier_than_on_and_later_than_its_day(self):
        for keeps in (0, 1):
            there = self.RULES + [edition(5, 10, [2]), edition(6, 100, [1], keeps)]
            for day, earlier in ((0, True), (9, True), (10, True), (99, True), (100, False), (101, False)):
                kept = 1 if keeps and earlier else 0
                self.assertEqual(ask_last(*there, name(9, day), status(9, 200)), [kept, 6, 1, 1, 0], (keeps, day))

    def test_the_or_of_both(self):
        status_of = {1: 0, 2: 1, 3: 2}
        for new in (1, 2, 3):
            for old in (1, 2, 3):
                there = self.RULES + [edition(5, 10, [old]), edition(6, 100, [new], 1), name(9, 50)]
                both = (status_of[new], status_of[old])
                want = 1 if 1 in both else 2 if 2 in both else 0
                self.assertEqual(ask_last(*there, status(9, 100)), [want, 6] + self.FAILING[new], both)

    def test_none_earlier(self):
        for key, want in ((1, 0), (2, 1), (3, 2)):
            there = self.RULES + [edition(6, 100, [key], 1), name(9, 50)]
            self.assertEqual(ask_last(*there, status(9, 100)), [want, 6] + self.FAILING[key])

    def test_an_earlier_edition_judges_though_the_name_is_earlier_than_it(self):
        there = self.RULES + [edition(5, 10, [2]), edition(6, 100, [1], 1), name(9, 0)]
        self.assertEqual(ask(*there, status(9, 5), status(9, 10), status(9, 100))[-3:], [[4, 0, 0, 0], [1, 5, 0, 0], [1, 6, 1, 1, 0]])

    def test_later_editions_are_not_in_play(self):
        there = self.RULES + [edition(5, 10, [1]), edition(6, 100, [1], 1), edition(7, 300, [2], 1), name(9, 50)]
        self.assertEqual(ask(*there, status(9, 299), status(9, 300))[-2:], [[0, 6, 1, 1, 0], [1, 7, 0, 0]])

    def chain(self, keeps, rules):
        """Editions of days 100, 200, .. with keys like their days."""
        return self.RULES + [edition(day, day, [key], mark) for day, mark, key in zip(range(100, 2000, 100), keeps, rules)]

    def test_a_chain(self):
        there = self.chain((0, 1, 1, 1), (2, 1, 1, 1))
        for day, want in ((0, 1), (100, 1), (199, 1), (200, 0), (201, 0), (399, 0), (400, 0)):
            self.assertEqual(ask_last(*there, name(9, day), status(9, 500)), [want, 400, 1, 1, 0], day)

    def test_a_chain_that_breaks_where_one_does_not_keep(self):
        there = self.chain((0, 1, 0, 1), (2, 2, 1, 1))
        for day in (0, 150, 250, 399):
            self.assertEqual(ask_last(*there, name(9, day), status(9, 500)), [0, 400, 1, 1, 0], day)

    def test_a_chain_that_ends_by_the_names_day(self):
        there = self.chain((1, 1, 1, 1), (2, 1, 3, 1))
        for day, want in ((50, 1), (150, 1), (200, 2), (299, 2), (300, 2), (399, 2), (400, 0)):
            self.assertEqual(ask_last(*there, name(9, day), status(9, 500)), [want, 400, 1, 1, 0], day)

    def test_a_chain_of_16(self):
        there = self.chain((0,) + (1,) * 15, (2,) + (1,) * 15)
        self.assertEqual(ask_last(*there, name(9, 199), status(9, LAST_DAY)), [1, 1600, 1, 1, 0])
        self.assertEqual(ask_last(*there, name(9, 200), status(9, LAST_DAY)), [0, 1600, 1, 1, 0])

    def test_whatever_order_the_editions_came_in(self):
        there = self.RULES + [edition(7, 300, [1], 1), edition(9, 100, [2]), edition(8, 200, [1], 1), name(1, 50)]
        asked = [status(1, view) for view in (100, 200, 300)]
        self.assertEqual(ask(*there, *asked)[-3:], [[1, 9, 0, 0], [1, 8, 1, 1, 0], [1, 7, 1, 1, 0]])


class WhatComesLater(unittest.TestCase):
    def test_facts_learned_between(self):
        calls = FLAGS + [rule(7, "a and b"), edition(5, 0, [7]), name(1), status(1, 0), learn(1, 1, 1), status(1, 0)]
        calls += [learn(1, 2, 0), status(1, 0)]
        self.assertEqual(ask(*calls)[-5::2], [[2, 5, 0, 1, 7], [2, 5, 0, 1, 7], [0, 5, 1, 7, 0]])

    def test_facts_learned_between_with_an_edition_that_keeps(self):
        calls = FLAGS + [rule(7, "a"), rule(8, "b"), edition(5, 0, [7]), edition(6, 9, [8], 1), name(1)]
        calls += [status(1, 9), learn(1, 2, 0), status(1, 9), learn(1, 1, 1), status(1, 9), list_of(1, 9)]
        self.assertEqual(ask(*calls)[-6::2], [[2, 6, 0, 1, 8], [2, 6, 1, 8, 0], [1, 6, 1, 8, 0]])
        self.assertEqual(ask(*calls)[-1], [1, 1])

    def test_a_refused_fact_changes_nothing(self):
        calls = FLAGS + [rule(7, "a"), edition(5, 0, [7]), name(1), learn(1, 1, 1), status(1, 0), learn(1, 1, 0), status(1, 0)]
        self.assertEqual(ask(*calls)[-3:], [[1, 5, 0, 0], [-4], [1, 5, 0, 0]])

    def test_editions_put_in_between(self):
        calls = FLAGS + [rule(7, "false"), edition(5, 10), edition(6, 30, [7], 1), name(1), status(1, 40)]
        calls += [edition(8, 20, [7]), status(1, 40), edition(9, 35), status(1, 40)]
        self.assertEqual(ask(*calls)[-5::2], [[1, 6, 1, 7, 0], [0, 6, 1, 7, 0], [1, 9, 0, 0]])

    def test_flags_put_in_between(self):
        calls = [flag(2, "b"), rule(7, "b"), edition(5, 0, [7]), name(1), flag(1, "a"), learn(1, 1, 0), status(1, 0)]
        self.assertEqual(ask_last(*calls), [2, 5, 0, 1, 7])


class StatusIsRefused(unittest.TestCase):
    THERE = [edition(5, 0), name(7, 3)]

    def test_no_such_name(self):
        for key in NO_KEYS + (1, 5, 6, 8):
            self.assertEqual(ask_last(*self.THERE, status(key, 3)), [-1], key)

    def test_view_is_no_day(self):
        for view in NO_DAYS:
            self.assertEqual(ask_last(*self.THERE, status(7, view)), [-2], view)

    def test_both(self):
        for view in NO_DAYS:
            self.assertEqual(ask_last(*self.THERE, status(8, view)), [-1], view)


class ListOf(unittest.TestCase):
    THERE = FLAGS + [rule(7, "a"), edition(5, 10, [7])]
    NAMES = [name(40, 5), name(3, 20), name(GREATEST_KEY, 0), name(1, 15), name(20, 5), name(2, 7)]
    FACTS = [learn(40, 1, 1), learn(3, 1, 1), learn(1, 1, 0), learn(20, 1, 1)]

    def listed(self, wanted, view):
        return ask_last(*self.THERE, *self.NAMES, *self.FACTS, list_of(wanted, view))

    def test_each_status(self):
        self.assertEqual([self.listed(wanted, 15) for wanted in range(5)], [[1, 1], [2, 20, 40], [2, 2, GREATEST_KEY], [1, 3], [0]])
        self.assertEqual([self.listed(wanted, 6) for wanted in range(5)], [[0], [0], [0], [3, 1, 2, 3], [3, 20, 40, GREATEST_KEY]])
        self.assertEqual([self.listed(wanted, 20) for wanted in range(5)], [[1, 1], [3, 3, 20, 40], [2, 2, GREATEST_KEY], [0], [0]])

    def test_first_and_last_day(self):
        self.assertEqual(self.listed(4, 0), [1, GREATEST_KEY])
        self.assertEqual(self.listed(3, LAST_DAY), [0])

    def test_no_names(self):
        for wanted in range(5):
            self.assertEqual(ask(list_of(wanted, 5)), [[0]])

    def test_100_names(self):
        names = [name((number * 37) % 100 + 1, number) for number in range(100)]
        there = names + [edition(1, 0)]
        self.assertEqual(ask_last(*there, list_of(1, 99)), [100] + list(range(1, 101)))
        want = sorted([(number * 37) % 100 + 1 for number in range(50)])
        self.assertEqual(ask_last(*there, list_of(1, 49)), [50] + want)

    def test_status_is_none(self):
        for wanted in (LEAST_NUMBER, -1, 5, GREATEST_NUMBER):
            self.assertEqual(self.listed(wanted, 5), [-1], wanted)

    def test_view_is_no_day(self):
        for view in NO_DAYS:
            self.assertEqual(self.listed(3, view), [-2], view)

    def test_both(self):
        self.assertEqual(self.listed(5, -1), [-1])
        self.assertEqual(self.listed(-1, LAST_DAY + 1), [-1])


class Changes(unittest.TestCase):
    THERE = ListOf.THERE + ListOf.NAMES + ListOf.FACTS

    def test_by_keys_ascending(self):
        want = [6, 1, 3, 0, 2, 3, 2, 3, 3, 1, 20, 4, 1, 40, 4, 1, GREATEST_KEY, 4, 2]
        self.assertEqual(ask_last(*self.THERE, changes(6, 20)), want)

    def test_the_other_way_round(self):
        want = [6, 1, 0, 3, 2, 2, 3, 3, 1, 3, 20, 1, 4, 40, 1, 4, GREATEST_KEY, 2, 4]
        self.assertEqual(ask_last(*self.THERE, changes(20, 6)), want)

    def test_only_those_that_change(self):
        self.assertEqual(ask_last(*self.THERE, changes(19, 20)), [1, 3, 3, 1])
        self.assertEqual(ask_last(*self.THERE, changes(14, 15)), [1, 1, 3, 0])

    def test_none_changes(self):
        self.assertEqual(ask_last(*self.THERE, changes(15, 15)), [0])
        self.assertEqual(ask_last(*self.THERE, changes(20, LAST_DAY)), [0])
        self.assertEqual(ask(changes(0, LAST_DAY)), [[0]])

    def test_by_a_later_edition(self):
        there = self.THERE + [rule(8, "not a"), edition(6, 30, [8]), edition(4, 50, [8], 1)]
        self.assertEqual(ask_last(*there, changes(29, 30)), [4, 1, 0, 1, 3, 1, 0, 20, 1, 0, 40, 1, 0])
        self.assertEqual(ask_last(*there, changes(30, 50)), [0])

    def test_first_day_is_none(self):
        for day in NO_DAYS:
            self.assertEqual(ask_last(*self.THERE, changes(day, 5)), [-1], day)

    def test_second_day_is_none(self):
        for day in NO_DAYS:
            self.assertEqual(ask_last(*self.THERE, changes(5, day)), [-2], day)

    def test_both(self):
        for day in NO_DAYS:
            self.assertEqual(ask_last(*self.THERE, changes(day, day)), [-1], day)


if __name__ == "__main__":
    unittest.main()
