"""Building calls, and taking answers apart."""

from codeeditions.desk import answers

LEAST_NUMBER = -2147483648
GREATEST_NUMBER = 2147483647
GREATEST_KEY = 1000000000
LAST_DAY = 1000000
KEPT_WORDS = ("and", "or", "not", "from", "before", "rank", "to", "true", "false")

# Each has one number out of bounds on either side, and the ends of what can be handed in.
NO_KEYS = (LEAST_NUMBER, -1, 0, GREATEST_KEY + 1, GREATEST_NUMBER)
NO_DAYS = (LEAST_NUMBER, -1, LAST_DAY + 1, GREATEST_NUMBER)
NO_RANKS = (LEAST_NUMBER, -1, 8, GREATEST_NUMBER)
NO_VALUES = (LEAST_NUMBER, -1, 2, GREATEST_NUMBER)


def row(text):
    numbers = list(text.encode("ascii")) if isinstance(text, str) else list(text)
    return [len(numbers)] + numbers


def flag(key, text):
    return [0, key] + row(text)


def rule(key, text="true", first=0, last=LAST_DAY, lo=0, hi=7):
    return [1, key, first, last, lo, hi] + row(text)


def text_of(key):
    return [2, key]


def form(text):
    return [3] + row(text)


def edition(key, day, rules=(), keeps=0):
    return [4, key, day, keeps] + row(rules)


def name(key, day=0, rank=0):
    return [5, key, day, rank]


def learn(name_key, flag_key, value):
    return [6, name_key, flag_key, value]


def facts(name_key):
    return [7, name_key]


def force(view):
    return [8, view]


def status(name_key, view):
    return [9, name_key, view]


def sure(name_key, view):
    return [10, name_key, view]


def settle(name_key, view, want):
    return [11, name_key, view, want]


def compare(a, b):
    return [12, a, b]


def editions(a, b):
    return [13, a, b]


def core(key):
    return [14, key]


def list_of(wanted, view):
    return [15, wanted, view]


def changes(v, w):
    return [16, v, w]


def ask(*calls):
    """The answer of each of these calls, asked behind one another on one object."""
    whole = [number for call in calls for number in call]
    given = answers(whole)
    split = []
    at = 0
    while at < len(given):
        end = at + 1 + given[at]
        split.append(given[at + 1:end])
        at = end
    if at != len(given) or len(split) != len(calls):
        raise AssertionError(f"{len(calls)} calls, but the answers are {given}")
    return split


def ask_last(*calls):
    """The answer of the last of these calls; the others must not be refused."""
    split = ask(*calls)
    for call, answer in zip(calls[:-1], split[:-1]):
        if answer[0] < 0:
            raise AssertionError(f"{call} was refused with {answer}")
    return split[-1]


def letter_flags(letters, first_key=1):
    """A flag for each of these letters, by keys ascending."""
    return [flag(first_key + place, letter) for place, letter in enumerate(letters)]


def told(text):
    """What text and form answer when this is the text."""
    return [0] + list(text.encode("ascii"))


def letter_words(count):
    """That many different words that may be flags."""
    return ["x" + chr(97 + number // 26) + chr(97 + number % 26) for number in range(count)]
