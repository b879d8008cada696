"""The interface: how calls and answers lie in one list, and that nothing is changed or kept."""

import unittest

from codeeditions.desk import answers
from tests.helper import GREATEST_KEY, ask, changes, compare, core, edition, editions, facts, flag, force, form, learn
from tests.helper import list_of, name, rule, settle, status, sure, text_of

SESSION = [
    flag(3, "published"),
    flag(1, "typed"),
    rule(10, "published and (typed or before 2000)", 0, 5000, 0, 7),
    rule(11, "not typed or rank 0 to 3", 100, 900, 2, 2),
    text_of(11),
    form("(published)and(typed or true)"),
    edition(7, 1000, [11, 10], 1),
    edition(8, 500, [10]),
    name(20, 700, 4),
    learn(20, 3, 1),
    learn(20, 1, 0),
    facts(20),
    force(400),
    force(600),
    force(1000),
    rule(10, "true"),
    text_of(10),
    learn(20, 1, 1),
    facts(20),
    facts(21),
    name(22, 800, 2),
    name(21, 400, 5),
    status(20, 1000),
    status(22, 1000),
    sure(22, 900),
    settle(22, 1000, 1),
    settle(22, 1000, 0),
    compare(10, 11),
    editions(7, 8),
    core(7),
    list_of(2, 1000),
    changes(450, 1000),
    settle(22, 1000, 2),
    core(9),
]


class Frozen(list):
    """A list that fails the test as soon as it would be changed."""

    def refuse(self, *ignored):
        raise AssertionError("what was handed in was changed")

    append = extend = insert = pop = remove = clear = sort = reverse = refuse
    __setitem__ = __delitem__ = __iadd__ = __imul__ = refuse


def flat(calls):
    return [number for call in calls for number in call]


class HowCallsAndAnswersLie(unittest.TestCase):
    def test_one_call_of_each_written_out(self):
        calls = [0, 5, 1, 97]
        calls += [1, 6, 0, 10, 0, 7, 5, 110, 111, 116, 32, 97]
        calls += [2, 6]
        calls += [3, 3, 40, 97, 41]
        calls += [4, 2, 30, 1, 1, 6]
        calls += [5, 9, 8, 7]
        calls += [6, 9, 5, 1]
        calls += [7, 9]
        calls += [8, 30]
        calls += [9, 9, 30]
        calls += [10, 9, 30]
        calls += [11, 9, 30, 0]
        calls += [12, 6, 6]
        calls += [13, 2, 2]
        calls += [14, 2]
        calls += [15, 0, 30]
        calls += [16, 7, 30]
        want = [1, 0]
        want += [1, 0]
        want += [6, 0, 110, 111, 116, 32, 97]
        want += [2, 0, 97]
        want += [1, 0]
        want += [1, 0]
        want += [1, 0]
        want += [3, 1, 5, 1]
        want += [1, 2]
        want += [5, 0, 2, 1, 6, 0]
        want += [1, 0]
        want += [1, 0]
        want += [1, 3]
        want += [1, 3]
        want += [2, 1, 6]
        want += [2, 1, 9]
        want += [4, 1, 9, 3, 0]
        self.assertEqual(answers(calls), want)

    def test_situations_and_pairs_written_out(self):
        calls = [0, 5, 1, 97] + [0, 3, 1, 98]
        calls += [1, 6, 0, 10, 0, 7, 1, 97] + [1, 7, 0, 10, 0, 7, 1, 98]
        calls += [12, 6, 7]
        calls += [4, 1, 20, 0, 2, 6, 7] + [4, 2, 30, 0, 0]
        calls += [13, 1, 2]
        calls += [5, 9, 8, 7]
        calls += [11, 9, 20, 1]
        calls += [9, 9, 20]
        want = [1, 0] * 4
        want += [9, 0, 0, 0, 1, 5, 0, 0, 1, 3]
        want += [1, 0] * 2
        want += [4, 1, 0, 0, 0]
        want += [1, 0]
        want += [5, 2, 3, 1, 5, 1]
        want += [6, 2, 1, 0, 2, 6, 7]
        self.assertEqual(answers(calls), want)

    def test_one_refusal_of_each_written_out(self):
        self.assertEqual(answers([0, 0, 0]), [1, -1])
        self.assertEqual(answers([1, 1, 0, 0, 0, 0, 0]), [1, -1000])
        self.assertEqual(answers([2, 1]), [1, -1])
        self.assertEqual(answers([3, 0]), [1, -1000])
        self.assertEqual(answers([4, 1, 1, 1, 1, 1]), [1, -6])
        self.assertEqual(answers([5, 1, 1, 8]), [1, -3])
        self.assertEqual(answers([6, 1, 1, 1]), [1, -1])
        self.assertEqual(answers([7, 1]), [1, -1])
        self.assertEqual(answers([8, -1]), [1, -1])
        self.assertEqual(answers([9, 1, 1]), [1, -1])
        self.assertEqual(answers([10, 1, 1]), [1, -1])
        self.assertEqual(answers([11, 1, 1, 1]), [1, -1])
        self.assertEqual(answers([12, 1, 1]), [1, -1])
        self.assertEqual(answers([13, 1, 1]), [1, -1])
        self.assertEqual(answers([14, 1]), [1, -1])
        self.assertEqual(answers([15, 5, 1]), [1, -1])
        self.assertEqual(answers([16, -1, 1]), [1, -1])

    def test_empty_rows_between_calls(self):
        self.assertEqual(ask(flag(1, ""), form(""), edition(1, 1, []), rule(1, ""), force(1)), [[-2], [-1000], [0], [-1000], [1]])

    def test_400_calls(self):
        calls = [name(1)] + [facts(1), force(5)] * 199 + [facts(2)]
        self.assertEqual(ask(*calls), [[0]] + [[0], [0]] * 199 + [[-1]])

    def test_a_long_list(self):
        texts = [form(" " * 4095 + ")")] * 7
        self.assertEqual(ask(*texts), [[-5095]] * 7)

    def test_a_session(self):
        want = [[0]] * 4
        want.append([0] + list(b"not typed or rank 0 to 3"))
        want.append([0] + list(b"published and (typed or true)"))
        want += [[0]] * 5
        want += [[2, 1, 0, 3, 1], [0], [8], [7], [-4]]
        want.append([0] + list(b"published and (typed or before 2000)"))
        want += [[-4], [2, 1, 0, 3, 1], [-1], [0], [0]]
        want += [[1, 7, 0, 0], [2, 7, 0, 1, 10], [2], [1, 3, 1], [1, 3, 0]]
        want += [[1, 0, 0, 0], [3], [1, 10]]
        want += [[2, 21, 22], [3, 20, 3, 1, 21, 4, 2, 22, 3, 2], [-5], [-1]]
        self.assertEqual(ask(*SESSION), want)

    def test_one_key_may_be_one_of_each(self):
        for key in (1, GREATEST_KEY):
            calls = [flag(key, "a"), rule(key, "a"), edition(key, 0, [key]), name(key), learn(key, key, 1)]
            asked = [text_of(key), force(0), facts(key), status(key, 0), sure(key, 0), compare(key, key), core(key)]
            want = [[0, 97], [key], [1, key, 1], [1, key, 0, 0], [1], [3], [1, key]]
            self.assertEqual(ask(*calls, *asked), [[0]] * 5 + want)


class NothingIsChangedOrKept(unittest.TestCase):
    def test_what_is_handed_in_is_not_changed(self):
        calls = flat(SESSION)
        before = list(calls)
        answers(calls)
        self.assertEqual(calls, before)

    def test_not_for_a_while_either(self):
        calls = flat(SESSION)
        self.assertEqual(answers(Frozen(calls)), answers(calls))

    def test_a_second_time_is_like_the_first(self):
        calls = flat(SESSION)
        first = answers(calls)
        answers(flat([flag(9, "other"), rule(9, "other"), edition(9, 9, [9]), name(9), learn(9, 9, 1)]))
        self.assertEqual(answers(calls), first)
        self.assertEqual(ask(text_of(9), facts(9), force(9), form("other")), [[-1], [-1], [0], [-6000]])

    def test_what_is_given_back_is_the_callers(self):
        calls = flat(SESSION)
        first = answers(calls)
        kept = list(first)
        first.clear()
        self.assertEqual(answers(calls), kept)

    def test_answers_are_whole_numbers_in_a_list(self):
        given = answers(flat(SESSION))
        self.assertIs(type(given), list)
        self.assertEqual({type(number) for number in given}, {int})


if __name__ == "__main__":
    unittest.main()
