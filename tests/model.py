"""The document's words done slowly: every value, way, list and situation by itself.

It takes calls as the helper builds them, and shares nothing with the program. Texts of conditions must be written as the
document writes them, or be one of WRONG; for situations every day from 0 to `days` is tried, and the last two days: rules
must not turn anywhere else.
"""

import itertools
import re

from tests.helper import GREATEST_KEY, KEPT_WORDS, LAST_DAY

YES, NO, OPEN = "yes", "no", "open"

# Texts that aren't right, with their places.
WRONG = {"": 0, "   ": 3, "true and": 8, "true or )": 8, "(false": 6, "rank 8": 5, "rank 5 to 4 or": 10, "true  true": 6}


class Value:
    def __init__(self, word):
        self.word = word

    def __invert__(self):
        return Value({YES: NO, NO: YES, OPEN: OPEN}[self.word])

    def __and__(self, other):
        words = (self.word, other.word)
        return Value(NO if NO in words else YES if words == (YES, YES) else OPEN)

    def __or__(self, other):
        words = (self.word, other.word)
        return Value(YES if YES in words else NO if words == (NO, NO) else OPEN)


def value_if(holds):
    return Value(YES if holds else NO)


def python_of(text):
    """The condition as Python reads it with ~, & and |, which bind like not, and, or."""
    text = re.sub(r"rank *(\d+) *to *(\d+)", r" R(\1,\2) ", text)
    text = re.sub(r"rank *(\d+)", r" R(\1,\1) ", text)
    text = re.sub(r"from *(\d+)", r" F(\1) ", text)
    text = re.sub(r"before *(\d+)", r" B(\1) ", text)
    signs = {"and": "&", "or": "|", "not": "~", "true": "T", "false": "N"}
    return re.sub(r"[a-z]+", lambda found: signs.get(found[0], f"G('{found[0]}')"), text)


def value_of(code, day, rank, facts):
    """The value of a compiled condition; facts is by flags' texts."""
    world = {
        "T": Value(YES),
        "N": Value(NO),
        "R": lambda low, high: value_if(low <= rank <= high),
        "F": lambda first: value_if(day >= first),
        "B": lambda bound: value_if(day < bound),
        "G": lambda text: Value({1: YES, 0: NO, None: OPEN}[facts.get(text)]),
    }
    return eval(code, world)


class Rule:
    def __init__(self, numbers, text):
        self.first, self.last, self.lo, self.hi = numbers
        self.text = text
        self.flags = {word for word in re.findall("[a-z]+", text) if word not in KEPT_WORDS}
        self.code = compile(python_of(text).strip(), "condition", "eval")

    def speaks(self, day, rank):
        return self.first <= day <= self.last and self.lo <= rank <= self.hi

    def value(self, day, rank, facts):
        return value_of(self.code, day, rank, facts) if self.speaks(day, rank) else Value(YES)


def is_day(number):
    return 0 <= number <= LAST_DAY


def counted(keys):
    return [len(keys)] + list(keys)


class Model:
    def __init__(self, days=20):
        self.flags, self.rules, self.editions, self.names = {}, {}, {}, {}
        self.days = list(range(days + 1)) + [LAST_DAY - 1, LAST_DAY]

    def answer(self, call):
        order = "flag rule text form edition name learn facts force"
        order += " status sure settle compare editions_of core list_of changes"
        return getattr(self, order.split()[call[0]])(*call[1:])

    def flag(self, key, count, *text):
        text = bytes(text).decode("latin-1")
        if not 1 <= key <= GREATEST_KEY:
            return [-1]
        if not re.fullmatch("[a-z]{1,12}", text) or text in KEPT_WORDS:
            return [-2]
        if key in self.flags:
            return [-3]
        if text in self.flags.values():
            return [-4]
        if len(self.flags) >= 24:
            return [-5]
        self.flags[key] = text
        return [0]

    def rule(self, key, first, last, lo, hi, count, *text):
        text = bytes(text).decode("ascii")
        if not 1 <= key <= GREATEST_KEY:
            return [-1]
        if not 0 <= first <= last <= LAST_DAY:
            return [-2]
        if not 0 <= lo <= hi <= 7:
            return [-3]
        if key in self.rules:
            return [-4]
        if self.text_refusal(text) < 0:
            return [self.text_refusal(text)]
        if len(self.rules) >= 64:
            return [-5]
        self.rules[key] = Rule((first, last, lo, hi), text)
        return [0]

    def text_refusal(self, text):
        if text in WRONG:
            return -1000 - WRONG[text]
        for found in re.finditer("[a-z]+", text):
            if found[0] not in KEPT_WORDS and found[0] not in self.flags.values():
                return -6000 - found.start()
        return 0

    def text(self, key):
        return [0] + list(self.rules[key].text.encode("ascii")) if key in self.rules else [-1]

    def form(self, count, *text):
        refusal = self.text_refusal(bytes(text).decode("ascii"))
        return [refusal] if refusal < 0 else [0] + list(text)

    def edition(self, key, day, keeps, count, *rules):
        if not 1 <= key <= GREATEST_KEY:
            return [-1]
        if not is_day(day):
            return [-2]
        if keeps not in (0, 1):
            return [-3]
        if key in self.editions:
            return [-4]
        if day in [other[0] for other in self.editions.values()]:
            return [-5]
        if not set(rules) <= set(self.rules):
            return [-6]
        if len(set(rules)) != len(rules):
            return [-7]
        if len(rules) > 8:
            return [-8]
        if len(self.editions) >= 16:
            return [-9]
        self.editions[key] = (day, keeps, rules)
        return [0]

    def name(self, key, day, rank):
        if not 1 <= key <= GREATEST_KEY:
            return [-1]
        if not is_day(day):
            return [-2]
        if not 0 <= rank <= 7:
            return [-3]
        if key in self.names:
            return [-4]
        if len(self.names) >= 100:
            return [-5]
        self.names[key] = (day, rank, {})
        return [0]

    def learn(self, name, flag, value):
        if name not in self.names:
            return [-1]
        if flag not in self.flags:
            return [-2]
        if value not in (0, 1):
            return [-3]
        facts = self.names[name][2]
        if self.flags[flag] in facts:
            return [-4]
        facts[self.flags[flag]] = value
        return [0]

    def facts(self, name):
        if name not in self.names:
            return [-1]
        known = self.names[name][2]
        pairs = [(key, known[self.flags[key]]) for key in sorted(self.flags) if self.flags[key] in known]
        return [len(pairs)] + [number for pair in pairs for number in pair]

    def in_force(self, view):
        """The key of the latest edition up to this day; None if there's none."""
        days = {edition[0]: key for key, edition in self.editions.items() if edition[0] <= view}
        return days[max(days)] if days else None

    def force(self, view):
        if not is_day(view):
            return [-1]
        return [self.in_force(view) or 0]

    def available(self, edition, day, rank, facts):
        if edition is None:
            return Value(NO)
        since, keeps, rules = self.editions[edition]
        passing = Value(YES)
        for key in rules:
            passing = passing & self.rules[key].value(day, rank, facts)
        if keeps and day < since:
            return passing | self.available(self.in_force(since - 1), day, rank, facts)
        return passing

    def looked_at(self, edition, day, rank):
        if edition is None:
            return []
        since, keeps, rules = self.editions[edition]
        found = [self.rules[key] for key in rules if self.rules[key].speaks(day, rank)]
        if keeps and day < since:
            found += self.looked_at(self.in_force(since - 1), day, rank)
        return found

    def status_on(self, name, view):
        day, rank, facts = self.names[name]
        if view < day:
            return 3
        if self.in_force(view) is None:
            return 4
        return {YES: 1, NO: 0, OPEN: 2}[self.available(self.in_force(view), day, rank, facts).word]

    def status(self, name, view):
        if name not in self.names:
            return [-1]
        if not is_day(view):
            return [-2]
        found = self.status_on(name, view)
        if found > 2:
            return [found, 0, 0, 0]
        edition = self.in_force(view)
        rules = sorted(self.editions[edition][2])
        words = {key: self.rules[key].value(*self.names[name]).word for key in rules}
        failing = [key for key in rules if words[key] == NO]
        return [found, edition] + counted(failing) + counted([key for key in rules if words[key] == OPEN])

    def question(self, name, view):
        if name not in self.names:
            return -1
        if not is_day(view):
            return -2
        if view < self.names[name][0]:
            return -3
        return -4 if self.in_force(view) is None else 0

    def unknown(self, name, view):
        day, rank, facts = self.names[name]
        stand = {text for rule in self.looked_at(self.in_force(view), day, rank) for text in rule.flags}
        return [key for key in sorted(self.flags) if self.flags[key] in stand and self.flags[key] not in facts]

    def ways(self, name, view, unknown):
        """For each way, the unknown flags' values and whether the name is available."""
        day, rank, facts = self.names[name]
        found = []
        for values in itertools.product((0, 1), repeat=len(unknown)):
            known = dict(facts)
            known.update({self.flags[key]: value for key, value in zip(unknown, values)})
            word = self.available(self.in_force(view), day, rank, known).word
            assert word != OPEN
            found.append((dict(zip(unknown, values)), word == YES))
        return found

    def sure(self, name, view):
        if self.question(name, view) < 0:
            return [self.question(name, view)]
        unknown = self.unknown(name, view)
        if len(unknown) > 10:
            return [-5]
        results = {available for way, available in self.ways(name, view, unknown)}
        return [2 if len(results) == 2 else int(True in results)]

    def settle(self, name, view, want):
        if self.question(name, view) < 0:
            return [self.question(name, view)]
        if want not in (0, 1):
            return [-5]
        unknown = self.unknown(name, view)
        if len(unknown) > 6:
            return [-6]
        ways = self.ways(name, view, unknown)
        fitting = []
        for values in itertools.product((None, 0, 1), repeat=len(unknown)):
            facts = [(key, value) for key, value in zip(unknown, values) if value is not None]
            left = [available for way, available in ways if all(way[key] == value for key, value in facts)]
            if all(available == bool(want) for available in left):
                fitting.append((len(facts), facts))
        if not fitting:
            return [-7]
        count, facts = min(fitting)
        return [count] + [number for pair in facts for number in pair]

    def flags_in(self, keys):
        texts = {text for key in keys for text in self.rules[key].flags}
        return [key for key in sorted(self.flags) if self.flags[key] in texts]

    def allows(self, keys, situation):
        day, rank, facts = situation
        return all(self.rules[key].value(day, rank, facts).word == YES for key in keys)

    def first_beyond(self, left, right, flags):
        """The first situation that the rules on the left allow and those on the right don't; None if there's none."""
        for day in self.days:
            for rank in range(8):
                for values in itertools.product((0, 1), repeat=len(flags)):
                    situation = (day, rank, {self.flags[key]: value for key, value in zip(flags, values)})
                    if self.allows(left, situation) and not self.allows(right, situation):
                        return [day, rank] + counted([key for key, value in zip(flags, values) if value])
        return None

    def compared(self, left, right, flags):
        first, second = self.first_beyond(left, right, flags), self.first_beyond(right, left, flags)
        return [(first is None) + 2 * (second is None)] + (first or []) + (second or [])

    def compare(self, a, b):
        if a not in self.rules:
            return [-1]
        if b not in self.rules:
            return [-2]
        flags = self.flags_in([a, b])
        return [-3] if len(flags) > 8 else self.compared([a], [b], flags)

    def editions_of(self, a, b):
        if a not in self.editions:
            return [-1]
        if b not in self.editions:
            return [-2]
        left, right = self.editions[a][2], self.editions[b][2]
        flags = self.flags_in(left + right)
        return [-3] if len(flags) > 6 else self.compared(left, right, flags)

    def core(self, key):
        if key not in self.editions:
            return [-1]
        rules = sorted(self.editions[key][2])
        flags = self.flags_in(rules)
        if len(flags) > 6:
            return [-2]
        stay = list(rules)
        for rule in rules:
            others = [other for other in stay if other != rule]
            if self.first_beyond(others, [rule], flags) is None:
                stay = others
        return counted(stay)

    def list_of(self, wanted, view):
        if not 0 <= wanted <= 4:
            return [-1]
        if not is_day(view):
            return [-2]
        return counted([key for key in sorted(self.names) if self.status_on(key, view) == wanted])

    def changes(self, v, w):
        if not is_day(v):
            return [-1]
        if not is_day(w):
            return [-2]
        both = [[key, self.status_on(key, v), self.status_on(key, w)] for key in sorted(self.names)]
        changed = [row for row in both if row[1] != row[2]]
        return [len(changed)] + [number for row in changed for number in row]
