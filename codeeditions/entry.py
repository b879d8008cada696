"""The calls that put something in: each gives back 0, or a refusal and leaves all as it was."""

from codeeditions.bounds import LONGEST_FLAG, MOST_EDITIONS, MOST_FLAGS, MOST_NAMES
from codeeditions.bounds import MOST_RULES, MOST_RULES_OF_EDITION, is_day, is_key, is_rank
from codeeditions.conditions import reading_of
from codeeditions.records import Edition, Name, Rule
from codeeditions.tokens import is_flag_word


def add_flag(code, key, signs):
    if not is_key(key):
        return -1
    if len(signs) > LONGEST_FLAG or not is_flag_word(signs):
        return -2
    if key in code.flag_texts:
        return -3
    if signs in code.flag_keys:
        return -4
    if len(code.flag_texts) == MOST_FLAGS:
        return -5
    code.flag_texts[key] = signs
    code.flag_keys[signs] = key
    return 0


def bounds_refusal(key, first, last, lowest, highest):
    if not is_key(key):
        return -1
    if not is_day(first) or not is_day(last) or first > last:
        return -2
    if not is_rank(lowest) or not is_rank(highest) or lowest > highest:
        return -3
    return 0


def add_rule(code, key, first, last, lowest, highest, signs):
    refusal = bounds_refusal(key, first, last, lowest, highest)
    if refusal < 0:
        return refusal
    if key in code.rules:
        return -4
    reading = reading_of(signs, code.flag_keys)
    if reading.refusal < 0:
        return reading.refusal
    if len(code.rules) == MOST_RULES:
        return -5
    flag_keys = [code.flag_keys[step[1]] for step in reading.steps if step[0] == "flag"]
    code.rules[key] = Rule(first, last, lowest, highest, reading.steps, sorted(set(flag_keys)))
    return 0


def has_edition_of_day(code, day):
    return any([edition.day == day for edition in code.editions.values()])


def rule_keys_refusal(code, rule_keys):
    if not all([key in code.rules for key in rule_keys]):
        return -6
    if len(set(rule_keys)) < len(rule_keys):
        return -7
    if len(rule_keys) > MOST_RULES_OF_EDITION:
        return -8
    return 0


def add_edition(code, key, day, keeps, rule_keys):
    if not is_key(key):
        return -1
    if not is_day(day):
        return -2
    if keeps not in (0, 1):
        return -3
    if key in code.editions:
        return -4
    if has_edition_of_day(code, day):
        return -5
    refusal = rule_keys_refusal(code, rule_keys)
    if refusal < 0:
        return refusal
    if len(code.editions) == MOST_EDITIONS:
        return -9
    code.editions[key] = Edition(key, day, keeps, list(rule_keys))
    return 0


def add_name(code, key, day, rank):
    if not is_key(key):
        return -1
    if not is_day(day):
        return -2
    if not is_rank(rank):
        return -3
    if key in code.names:
        return -4
    if len(code.names) == MOST_NAMES:
        return -5
    code.names[key] = Name(day, rank)
    return 0


def learn_fact(code, name_key, flag_key, value):
    if name_key not in code.names:
        return -1
    if flag_key not in code.flag_texts:
        return -2
    if value not in (0, 1):
        return -3
    name = code.names[name_key]
    if flag_key in name.facts:
        return -4
    name.facts[flag_key] = value
    name.passings = {}
    return 0
