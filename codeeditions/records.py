"""What the calls put in and ask about."""


class Rule:
    def __init__(self, first, last, lowest, highest, steps, flag_keys):
        self.first = first
        self.last = last
        self.lowest = lowest
        self.highest = highest
        self.steps = steps
        # Of the flags that stand in the condition, ascending, each once.
        self.flag_keys = flag_keys


class Edition:
    def __init__(self, key, day, keeps, rule_keys):
        self.key = key
        self.day = day
        self.keeps = keeps
        self.rule_keys = rule_keys


class Name:
    def __init__(self, day, rank):
        self.day = day
        self.rank = rank
        # By flags' keys, 1 for yes and 0 for no.
        self.facts = {}
        # By editions' keys, the values that are worked out already; only a new fact can change them.
        self.passings = {}


class Code:
    """All that one line of calls has put in, by keys."""

    def __init__(self):
        # Flags both ways: calls name them by keys, conditions by texts.
        self.flag_texts = {}
        self.flag_keys = {}
        self.rules = {}
        self.editions = {}
        self.names = {}
