"""Comparing rules and editions by the situations that they allow."""

from codeeditions.bounds import HIGHEST_RANK, LAST_DAY, MOST_FLAGS_OF_EDITIONS, MOST_FLAGS_OF_TWO_RULES
from codeeditions.judging import rules_of
from codeeditions.spread import Spread
from codeeditions.values import Ways, rule_value


def flags_of(rules):
    """The keys, ascending, of the flags that stand in these rules, each once."""
    found = []
    for rule in rules:
        found.extend(rule.flag_keys)
    return sorted(set(found))


def turning_days(rule):
    """The days, 0 aside, on which what the rule allows may be other than on the day before."""
    turns = [step[1] for step in rule.steps if step[0] in ("from", "before")]
    return turns + [rule.first, rule.last + 1]


def days_of(rules):
    """The days, ascending, that stand for all: from each of these to the next nothing turns."""
    days = [0]
    for rule in rules:
        days.extend([day for day in turning_days(rule) if day <= LAST_DAY])
    return sorted(set(days))


class Situations:
    """The situations of some rules: the days that stand for all, on each all ranks with all ways of the flags.

    The situations of one day are bits of one whole number, in the document's order from the lowest bit up: first all
    those of rank 0. What rules allow is a row of such numbers, one for each day.
    """

    def __init__(self, code, rules):
        self.flag_keys = flags_of(rules)
        self.days = days_of(rules)
        self.spread = Spread(self.flag_keys)
        ranks = list(range(HIGHEST_RANK + 1))
        # To multiply by this sets what holds of one rank's bits for each rank.
        on_each_rank = sum([1 << (rank * self.spread.ways) for rank in ranks])
        full = self.spread.full * on_each_rank
        flag_values = {}
        for key in self.flag_keys:
            bits = self.spread.bits[key] * on_each_rank
            flag_values[code.flag_texts[key]] = (bits, full ^ bits)
        rank_bits = [self.spread.full << (rank * self.spread.ways) for rank in ranks]
        self.ways = Ways(full, rank_bits, flag_values)

    def allowed_by_rule(self, rule):
        turns = turning_days(rule)
        row = []
        allowed = 0
        for day in self.days:
            if day == 0 or day in turns:
                allowed = rule_value(rule, day, self.ways)[0]
            row.append(allowed)
        return row

    def allowed_by_all(self, rows):
        """What's allowed by each of these rows; by none, all is."""
        allowed = [self.ways.full for day in self.days]
        for row in rows:
            allowed = [before & also for before, also in zip(allowed, row)]
        return allowed

    def first_beyond(self, left, right):
        """The first situation that's allowed on the left and not on the right, as it's answered; [] if there's none."""
        for day, here, there in zip(self.days, left, right):
            beyond = here & ~there
            if beyond != 0:
                lowest = (beyond & -beyond).bit_length() - 1
                return [day] + self.rank_and_flags(lowest)
        return []

    def rank_and_flags(self, place):
        rank = place // self.spread.ways
        way = place % self.spread.ways
        yes = [key for key in self.flag_keys if self.spread.bits[key] >> way & 1 == 1]
        return [rank, len(yes)] + yes


def comparison(code, left_rules, right_rules):
    situations = Situations(code, left_rules + right_rules)
    left = situations.allowed_by_all([situations.allowed_by_rule(rule) for rule in left_rules])
    right = situations.allowed_by_all([situations.allowed_by_rule(rule) for rule in right_rules])
    only_left = situations.first_beyond(left, right)
    only_right = situations.first_beyond(right, left)
    number = 0
    if only_left == []:
        number += 1
    if only_right == []:
        number += 2
    return [number] + only_left + only_right


def compare_answer(code, left_key, right_key):
    if left_key not in code.rules:
        return [-1]
    if right_key not in code.rules:
        return [-2]
    left = [code.rules[left_key]]
    right = [code.rules[right_key]]
    if len(flags_of(left + right)) > MOST_FLAGS_OF_TWO_RULES:
        return [-3]
    return comparison(code, left, right)


def editions_answer(code, left_key, right_key):
    if left_key not in code.editions:
        return [-1]
    if right_key not in code.editions:
        return [-2]
    left = rules_of(code, code.editions[left_key])
    right = rules_of(code, code.editions[right_key])
    if len(flags_of(left + right)) > MOST_FLAGS_OF_EDITIONS:
        return [-3]
    return comparison(code, left, right)


def core_answer(code, edition_key):
    if edition_key not in code.editions:
        return [-1]
    edition = code.editions[edition_key]
    rules = rules_of(code, edition)
    if len(flags_of(rules)) > MOST_FLAGS_OF_EDITIONS:
        return [-2]
    situations = Situations(code, rules)
    rows = {}
    for key in edition.rule_keys:
        rows[key] = situations.allowed_by_rule(code.rules[key])
    staying = sorted(edition.rule_keys)
    for key in sorted(edition.rule_keys):
        others = [other for other in staying if other != key]
        by_others = situations.allowed_by_all([rows[other] for other in others])
        if situations.first_beyond(by_others, rows[key]) == []:
            staying = others
    return [len(staying)] + staying
