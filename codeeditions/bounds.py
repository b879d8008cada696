"""The bounds that the document sets."""

GREATEST_KEY = 1000000000
LAST_DAY = 1000000
HIGHEST_RANK = 7

LONGEST_FLAG = 12
LONGEST_CONDITION = 200
DEEPEST_NESTING = 40

MOST_FLAGS = 24
MOST_RULES = 64
MOST_EDITIONS = 16
MOST_RULES_OF_EDITION = 8
MOST_NAMES = 100

MOST_UNKNOWN_FOR_SURE = 10
MOST_UNKNOWN_FOR_SETTLE = 6
MOST_FLAGS_OF_TWO_RULES = 8
MOST_FLAGS_OF_EDITIONS = 6


def is_key(number):
    return 1 <= number <= GREATEST_KEY


def is_day(number):
    return 0 <= number <= LAST_DAY


def is_rank(number):
    return 0 <= number <= HIGHEST_RANK
