"""Promises 5 and 9: edition and force."""

import unittest

from tests.helper import GREATEST_KEY, LAST_DAY, NO_DAYS, NO_KEYS, NO_VALUES, ask, ask_last, edition, flag, force
from tests.helper import name, rule

RULES = [rule(key) for key in range(1, 17)]


class EditionIsThere(unittest.TestCase):
    def test_ordinary(self):
        calls = RULES + [edition(5, 100, [3, 1, 2]), force(100)]
        self.assertEqual(ask(*calls)[-2:], [[0], [5]])

    def test_without_rules(self):
        self.assertEqual(ask(edition(5, 100), force(100)), [[0], [5]])

    def test_keeping_or_not(self):
        calls = [edition(5, 100, keeps=0), edition(6, 200, keeps=1), force(150), force(200)]
        self.assertEqual(ask(*calls), [[0], [0], [5], [6]])

    def test_least_and_greatest_key_and_day(self):
        calls = [edition(1, 0), edition(GREATEST_KEY, LAST_DAY), force(0), force(LAST_DAY)]
        self.assertEqual(ask(*calls), [[0], [0], [1], [GREATEST_KEY]])

    def test_eight_rules(self):
        self.assertEqual(ask_last(*RULES, edition(1, 1, range(1, 9))), [0])

    def test_rules_may_be_shared(self):
        self.assertEqual(ask(*RULES, edition(1, 1, [1, 2]), edition(2, 2, [2, 1]))[-2:], [[0], [0]])

    def test_keys_are_apart_from_the_other_kinds(self):
        calls = [flag(1, "a"), rule(1), name(1), edition(1, 1, [1]), force(1)]
        self.assertEqual(ask(*calls), [[0]] * 4 + [[1]])


class EditionIsRefused(unittest.TestCase):
    def test_no_key(self):
        for key in NO_KEYS:
            self.assertEqual(ask(edition(key, 1), force(1)), [[-1], [0]], key)

    def test_no_day(self):
        for day in NO_DAYS:
            self.assertEqual(ask(edition(1, day), force(LAST_DAY)), [[-2], [0]], day)

    def test_keeps_is_neither(self):
        for keeps in NO_VALUES:
            self.assertEqual(ask(edition(1, 1, keeps=keeps), force(1)), [[-3], [0]], keeps)

    def test_key_is_taken(self):
        self.assertEqual(ask(edition(1, 1), edition(1, 2), force(2)), [[0], [-4], [1]])

    def test_day_is_taken(self):
        self.assertEqual(ask(edition(1, 1), edition(2, 1), force(1)), [[0], [-5], [1]])
        self.assertEqual(ask(edition(1, 1), edition(2, 3), edition(3, 1), edition(4, 3))[2:], [[-5], [-5]])

    def test_no_rule(self):
        for keys in ([17], [1, 17], [17, 1], [1, 0], [-1], [1, 2, 17, 3], [2147483647], [-2147483648]):
            self.assertEqual(ask(*RULES, edition(1, 1, keys), force(1))[-2:], [[-6], [0]], keys)

    def test_key_twice(self):
        for keys in ([1, 1], [1, 2, 1], [3, 1, 2, 2], [1, 2, 3, 4, 5, 6, 7, 1]):
            self.assertEqual(ask(*RULES, edition(1, 1, keys), force(1))[-2:], [[-7], [0]], keys)

    def test_more_than_eight(self):
        for count in (9, 16):
            self.assertEqual(ask(*RULES, edition(1, 1, range(1, count + 1)), force(1))[-2:], [[-8], [0]], count)

    def test_there_are_16(self):
        full = [edition(key, key) for key in range(1, 17)]
        self.assertEqual(ask(*full), [[0]] * 16)
        self.assertEqual(ask(*full, edition(17, 17), force(17))[-2:], [[-9], [16]])

    def test_a_refused_edition_takes_no_place_key_or_day(self):
        refused = [edition(0, 1), edition(1, -1), edition(1, 1, keeps=2), edition(1, 1, [1])]
        calls = refused + [edition(key, key) for key in range(1, 17)]
        self.assertEqual(ask(*calls), [[-1], [-2], [-3], [-6]] + [[0]] * 16)


class OrderOfRefusals(unittest.TestCase):
    def test_each_before_the_next(self):
        there = RULES + [edition(1, 1)]
        nine_twice = [1, 1, 2, 3, 4, 5, 6, 7, 8]
        self.assertEqual(ask_last(*there, edition(0, -1, [17], 2)), [-1])
        self.assertEqual(ask_last(*there, edition(1, -1, [17], 2)), [-2])
        self.assertEqual(ask_last(*there, edition(1, 1, [17], 2)), [-3])
        self.assertEqual(ask_last(*there, edition(1, 1, [17])), [-4])
        self.assertEqual(ask_last(*there, edition(2, 1, [17])), [-5])
        self.assertEqual(ask_last(*there, edition(2, 2, [1, 1, 17])), [-6])
        self.assertEqual(ask_last(*there, edition(2, 2, nine_twice + [17])), [-6])
        self.assertEqual(ask_last(*there, edition(2, 2, nine_twice)), [-7])

    def test_the_bound_of_16_comes_last(self):
        full = RULES + [edition(key, key) for key in range(1, 17)]
        self.assertEqual(ask_last(*full, edition(0, 17)), [-1])
        self.assertEqual(ask_last(*full, edition(17, -1)), [-2])
        self.assertEqual(ask_last(*full, edition(17, 17, keeps=2)), [-3])
        self.assertEqual(ask_last(*full, edition(16, 17)), [-4])
        self.assertEqual(ask_last(*full, edition(17, 16)), [-5])
        self.assertEqual(ask_last(*full, edition(17, 17, [17])), [-6])
        self.assertEqual(ask_last(*full, edition(17, 17, [1, 1])), [-7])
        self.assertEqual(ask_last(*full, edition(17, 17, range(1, 10))), [-8])
        self.assertEqual(ask_last(*full, edition(17, 17, [1])), [-9])


class Force(unittest.TestCase):
    def test_none_is_there(self):
        self.assertEqual(ask(force(0), force(LAST_DAY)), [[0], [0]])

    def test_from_its_day_on(self):
        calls = [edition(7, 100), force(99), force(100), force(101), force(LAST_DAY)]
        self.assertEqual(ask(*calls), [[0], [0], [7], [7], [7]])

    def test_the_latest_whatever_order_they_came_in(self):
        for days in ((10, 20, 30), (30, 20, 10), (20, 30, 10), (20, 10, 30)):
            calls = [edition(1000 - day, day) for day in days]
            asked = [force(view) for view in (9, 10, 19, 20, 29, 30, 31)]
            want = [[0], [990], [990], [980], [980], [970], [970]]
            self.assertEqual(ask(*calls, *asked)[3:], want, days)

    def test_by_what_has_come_so_far(self):
        calls = [edition(1, 10), force(50), edition(2, 40), force(50), edition(3, 20), force(50), edition(4, 51), force(50)]
        self.assertEqual(ask(*calls)[1::2], [[1], [2], [2], [2]])

    def test_view_is_no_day(self):
        for view in NO_DAYS:
            self.assertEqual(ask(edition(1, 0), force(view)), [[0], [-1]], view)
            self.assertEqual(ask(force(view)), [[-1]], view)


if __name__ == "__main__":
    unittest.main()
