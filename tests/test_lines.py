"""Whole lines of calls: against the slow model, without their refused calls, and at the greatest numbers."""

import ast
import random
import unittest

from codeeditions.desk import answers
from tests.helper import LAST_DAY, ask, changes, compare, core, edition, editions, facts, flag, force, form, learn
from tests.helper import letter_words, list_of, name, rule, settle, status, sure, text_of
from tests.model import WRONG, Model
from tests.test_grammar import written_by_python

LONGEST_LINE = 31000
MOST_CALLS = 400


def condition(chance, words, depth, days):
    """A random condition, written as the document writes it."""
    written = written_by_python(ast.parse(python_text(chance, words, depth, days), mode="eval").body)[1]
    if len(written) > 200:
        return condition(chance, words, depth, days)
    return written


def python_text(chance, words, depth, days):
    pick = chance.randrange(10)
    if depth == 0 or pick == 9:
        low, high = sorted([chance.randrange(8), chance.randrange(8)])
        day = chance.randrange(days + 1)
        # "_" stands for a blank within what Python takes for one name.
        others = [f"from_{day}", f"before_{day}", f"rank_{low}", f"rank_{low}_to_{high + 1}" if high < 7 else "true", "false"]
        return chance.choice(words) if words and chance.random() < 0.65 else chance.choice(others)
    if pick < 2:
        return "not (" + python_text(chance, words, depth - 1, days) + ")"
    joint = " and " if pick < 5 else " or "
    return joint.join(["(" + python_text(chance, words, depth - 1, days) + ")" for side in range(2)])


class LineMaker:
    """Makes a line of calls: keys and days are few, so that calls meet; some are none at all."""

    def __init__(self, seed, days=14, flags=7, keys=12):
        self.chance = random.Random(seed)
        self.days = days
        self.keys = keys
        self.words = letter_words(flags)

    def key(self):
        if self.chance.random() < 0.04:
            return self.chance.choice((0, -1, 1000000001, 77))
        return self.chance.randrange(1, self.keys + 1)

    def day(self):
        if self.chance.random() < 0.04:
            return self.chance.choice((-1, LAST_DAY + 1))
        return self.chance.choice((self.chance.randrange(self.days + 1), self.chance.randrange(self.days + 1), LAST_DAY))

    def span(self, greatest):
        ends = [self.chance.randrange(greatest + 1), self.chance.randrange(greatest + 1)]
        return ends if self.chance.random() < 0.02 else sorted(ends)

    def rule(self):
        first, last = self.span(self.days)
        if self.chance.random() < 0.5:
            first, last = 0, LAST_DAY
        lo, hi = self.span(7)
        if self.chance.random() < 0.6:
            lo, hi = 0, 7
        return rule(self.key(), self.text(), first, last, lo, hi)

    def text(self):
        if self.chance.random() < 0.04:
            return self.chance.choice(list(WRONG))
        words = self.chance.sample(self.words, self.chance.randrange(1, 4))
        return condition(self.chance, words, self.chance.randrange(4), self.days)

    def putting(self):
        pick = self.chance.randrange(12)
        value = self.chance.choice((0, 1, 0, 1, 0, 1, 2))
        if pick < 2:
            return flag(self.key(), self.chance.choice(self.words))
        if pick < 6:
            return self.rule()
        if pick < 8:
            rules = [self.key() for number in range(self.chance.choice((0, 1, 2, 2, 3, 3, 4)))]
            return edition(self.key(), self.day(), rules, self.chance.choice((0, 1, 1, 1, 1, 2)))
        if pick < 10:
            return name(self.key(), self.day(), self.chance.choice((0, 1, 2, 3, 4, 5, 6, 7, 8)))
        return learn(self.key(), self.key(), value)

    def asking(self):
        key, other, day = self.key(), self.key(), self.day()
        asked = [status(key, day), status(key, day), sure(key, day), sure(key, day), settle(key, day, 0), settle(key, day, 1)]
        asked += [compare(key, other), editions(key, other), core(key), list_of(self.chance.randrange(-1, 6), day)]
        return self.chance.choice(asked + [changes(day, self.day()), facts(key), force(day), text_of(key), form(self.text())])

    def line(self, count):
        calls = [flag(place + 1, word) for place, word in enumerate(self.words) if self.chance.random() < 0.9]
        while len(calls) < count:
            calls.append(self.putting() if self.chance.random() < 0.6 else self.asking())
        return calls


def flat(calls):
    return [number for call in calls for number in call]


def fitting(calls):
    """As many of these calls as a line may have."""
    while len(calls) > MOST_CALLS or len(flat(calls)) > LONGEST_LINE:
        calls = calls[:-1]
    return calls


class LineCase(unittest.TestCase):
    def assert_as_the_model(self, calls, model):
        seen = {}
        for place, (call, answer) in enumerate(zip(calls, ask(*calls))):
            self.assertEqual(answer, model.answer(call), (place, call))
            kind = (call[0], answer[0] if answer[0] < 0 or call[0] in (9, 10, 12, 13) else "answer")
            seen[kind] = seen.get(kind, 0) + 1
        return seen


class AgainstTheModel(LineCase):
    def test_lines_in_any_order(self):
        seen = {}
        for seed in range(60):
            maker = LineMaker(seed)
            calls = fitting(maker.line(maker.chance.choice((1, 60, 150, 250))))
            for kind, count in self.assert_as_the_model(calls, Model(days=15)).items():
                seen[kind] = seen.get(kind, 0) + count
        wanted = [(9, found) for found in range(5)] + [(10, found) for found in range(3)] + [(11, "answer")]
        wanted += [(12, found) for found in range(4)] + [(13, 0), (13, 3)]
        wanted += [(14, "answer"), (15, "answer"), (16, "answer"), (9, -1), (9, -2), (11, -7), (14, -1), (15, -1), (15, -2)]
        wanted += [(10, refusal) for refusal in (-1, -2, -3, -4)] + [(12, -1), (12, -2), (13, -1), (13, -2), (16, -1), (16, -2)]
        self.assertEqual([kind for kind in wanted if kind not in seen], [])

    def test_editions_that_share_rules(self):
        seen = {}
        for seed in range(150, 160):
            maker = LineMaker(seed, days=4, flags=4)
            flags = [flag(place + 1, word) for place, word in enumerate(maker.words)]
            rules = [rule(key, condition(maker.chance, maker.words, 2, 4)) for key in range(1, 9)]
            laws = [edition(key, key, maker.chance.sample(range(1, 9), key - 1)) for key in range(1, 7)]
            asked = [editions(key, other) for key in range(1, 7) for other in range(1, 7)] + [core(key) for key in range(1, 7)]
            for kind, count in self.assert_as_the_model(flags + rules + laws + asked, Model(days=5)).items():
                seen[kind] = seen.get(kind, 0) + count
        self.assertEqual([found for found in range(4) if (13, found) not in seen], [])

    def test_lines_of_400_calls(self):
        for seed in range(100, 106):
            calls = LineMaker(seed, flags=5).line(MOST_CALLS)
            self.assertLessEqual(len(flat(calls)), LONGEST_LINE)
            self.assert_as_the_model(calls, Model(days=15))

    def test_many_flags_in_one_question(self):
        for seed in range(200, 206):
            maker = LineMaker(seed, days=4, flags=12)
            flags = [flag(place + 1, word) for place, word in enumerate(maker.words)]
            rules = [rule(key, condition(maker.chance, maker.words, 3, 4)) for key in range(1, 9)]
            laws = [edition(1, 2, [1, 2]), edition(2, 4, [3, 4], 1), edition(3, 3, [5], 1)]
            names = [name(key, key) for key in range(1, 6)] + [learn(key, flag_key, flag_key % 2) for key in range(1, 6) for flag_key in (2, 5, 7)]
            asked = [sure(key, 5) for key in range(1, 6)] + [settle(key, 5, want) for key in range(1, 6) for want in (0, 1)]
            asked += [compare(1, 2), compare(3, 4), editions(1, 3), core(2)]
            self.assert_as_the_model(flags + rules + laws + names + asked, Model(days=5))


class RefusedCalls(unittest.TestCase):
    def test_they_leave_the_object_as_it_was(self):
        refused_in_all = 0
        for seed in range(300, 340):
            calls = fitting(LineMaker(seed).line(MOST_CALLS))
            found = ask(*calls)
            stay = [place for place in range(len(calls)) if found[place][0] >= 0]
            refused_in_all += len(calls) - len(stay)
            self.assertEqual(ask(*[calls[place] for place in stay]), [found[place] for place in stay], seed)
        self.assertGreater(refused_in_all, 2000)

    def test_asking_leaves_it_too(self):
        for seed in range(400, 420):
            calls = fitting(LineMaker(seed).line(MOST_CALLS))
            found = ask(*calls)
            puts = [place for place in range(len(calls)) if calls[place][0] in (0, 1, 4, 5, 6)]
            self.assertEqual(ask(*[calls[place] for place in puts]), [found[place] for place in puts], seed)


def greatest(chance, keeps, words_of_rule):
    """24 flags, 64 rules, 16 editions with 8 rules each and 100 names, in some order that may be."""
    words = letter_words(24)
    flags = [flag(24 - place, word) for place, word in enumerate(words)]
    rules = [rule(key, condition(chance, words_of_rule(words, key), 3, 14)) for key in range(1, 65)]
    laws = [edition(key, key - 1, chance.sample(range(1, 65), 8), keeps) for key in range(1, 17)]
    names = [name(101 - key, key % 15, key % 8) for key in range(1, 101)]
    return flags + rules + laws + names


class TheGreatestNumbers(LineCase):
    def test_all_at_once(self):
        for keeps in (0, 1):
            chance = random.Random(500 + keeps)
            there = greatest(chance, keeps, lambda words, key: words[key % 21:key % 21 + 3])
            too_many = [flag(25, "more"), rule(65), edition(17, 17), name(101)]
            learned = [learn(chance.randrange(1, 101), chance.randrange(1, 25), chance.randrange(2)) for number in range(60)]
            asked = [status(chance.randrange(1, 101), chance.randrange(18)) for number in range(60)]
            asked += [list_of(wanted, view) for wanted in range(5) for view in (0, 7, 16)]
            asked += [changes(0, 15), changes(15, 3), changes(8, 9)]
            asked += [compare(chance.randrange(1, 65), chance.randrange(1, 65)) for number in range(8)]
            asked += [sure(key, 16) for key in range(1, 11)] + [settle(key, 16, 1) for key in range(1, 11)]
            calls = there + too_many + learned + asked
            self.assertLessEqual(len(calls), MOST_CALLS)
            self.assertLessEqual(len(flat(calls)), LONGEST_LINE)
            self.assertEqual(ask(*calls)[204:208], [[-5], [-5], [-9], [-5]])
            self.assert_as_the_model(calls, Model(days=15))

    def test_editions_and_cores_of_eight_rules(self):
        chance = random.Random(600)
        there = greatest(chance, 1, lambda words, key: words[:3])
        asked = [core(key) for key in range(1, 17)] + [editions(key, 17 - key) for key in range(1, 9)]
        self.assert_as_the_model(there + asked, Model(days=15))


def days_text(start, joint):
    """200 bytes with as many days as can stand in them."""
    return joint.join([f"from {start + place}" for place in range(16)]) + joint + "a"


def ask_unrefused(calls):
    found = ask(*calls)
    if [answer for answer in found if answer[0] < 0 and answer[0] != -7]:
        raise AssertionError("a call was refused")
    return found


class LongQuestions(unittest.TestCase):
    """Lines that would never end if each call went through all its situations, or each name through all rules anew."""

    def test_editions_again_and_again(self):
        words = "abcdef"
        flags = [flag(place + 1, word) for place, word in enumerate(words)]
        rules = [rule(key, days_text(100 + key * 16, " or ") + " or " + words[key % 6]) for key in range(16)[1:]]
        rules.append(rule(16, days_text(400, " or ")))
        laws = [edition(1, 1, range(1, 9)), edition(2, 2, range(9, 17))]
        calls = flags + rules + laws + [editions(1, 2), core(1)] * 180
        found = ask_unrefused(calls)
        self.assertEqual(found[-2:], found[-360:-358])
        self.assertEqual(found[-2:] * 180, found[-360:])

    def test_compare_again_and_again(self):
        words = "abcdefgh"
        flags = [flag(place + 1, word) for place, word in enumerate(words)]
        rules = [rule(1, days_text(100, " or ")), rule(2, " and ".join(words) + " or from 500"), rule(3, " or ".join(words))]
        found = ask_unrefused(flags + rules + [compare(1, 2), compare(2, 3)] * 190)
        self.assertEqual(found[-2:] * 190, found[11:])
        self.assertEqual(found[-2], [2, 0, 0, 1, 1])

    def test_changes_again_and_again(self):
        flags = [flag(1, "a"), flag(2, "b")]
        rules = [rule(key, " or ".join(["a and b"] * 18)) for key in range(1, 9)]
        laws = [edition(key, 100 + key, range(1, 9), 1) for key in range(1, 17)]
        names = [name(key, key % 90) for key in range(1, 101)]
        asked = [number for key in range(1, 84) for number in (learn(key, 1, key % 2), changes(95, 500), list_of(2, 500))]
        calls = flags + rules + laws + names + asked
        self.assertLessEqual(len(calls), MOST_CALLS)
        found = ask_unrefused(calls)
        self.assertEqual(found[-1][0], 100 - 41)
        self.assertEqual(found[-2][:4], [100, 1, 4, 2])

    def test_sure_and_settle_again_and_again(self):
        words = letter_words(10)
        flags = [flag(place + 1, word) for place, word in enumerate(words)]
        rules = [rule(key, " or ".join([f"not {word}" for word in words] + words)) for key in range(1, 9)]
        laws = [edition(key, 100 + key, range(1, 9), 1) for key in range(1, 17)]
        names = [name(1), name(2)] + [learn(2, key, 0) for key in range(1, 5)]
        calls = flags + rules + laws + names + [sure(1, 500), settle(2, 500, 0)] * 175
        self.assertLessEqual(len(calls), MOST_CALLS)
        self.assertEqual(ask_unrefused(calls)[-2:], [[1], [-7]])


class NothingIsKept(unittest.TestCase):
    def test_lines_one_after_another_and_again(self):
        lines = [flat(fitting(LineMaker(seed).line(150))) for seed in range(700, 712)]
        copies = [list(line) for line in lines]
        first = [answers(line) for line in lines]
        self.assertEqual([answers(line) for line in reversed(lines)], list(reversed(first)))
        self.assertEqual(lines, copies)


if __name__ == "__main__":
    unittest.main()
