"""The values of conditions and rules, worked out in many ways at once.

A way is a rank, and for each flag yes, no or open. A value is a pair of whole numbers:
bit k of the first is set if it's yes in way k, bit k of the second if it's no in way k.
Where neither is set it's open. So one walk over a condition serves all the ways.
"""

NEITHER = (0, 0)


class Ways:
    """Some ways: the bits of all, by ranks the bits of those that have it, by flags' texts the flags' values."""

    def __init__(self, full, rank_bits, flag_values):
        self.full = full
        self.rank_bits = rank_bits
        # A flag that isn't there is open in each way.
        self.flag_values = flag_values


def both(left, right):
    return (left[0] & right[0], left[1] | right[1])


def either(left, right):
    return (left[0] | right[0], left[1] & right[1])


def bits_of_ranks(ways, lowest, highest):
    # No way has two ranks, so no bit is added to itself.
    return sum(ways.rank_bits[lowest:highest + 1])


def holds_on(step, day):
    """Whether a step that's the same in each way holds on this day."""
    kind = step[0]
    if kind == "from":
        return day >= step[1]
    if kind == "before":
        return day < step[1]
    return kind == "true"


def plain_value(step, day, ways):
    if step[0] == "flag":
        return ways.flag_values.get(step[1], NEITHER)
    if step[0] == "rank":
        bits = bits_of_ranks(ways, step[1], step[2])
        return (bits, ways.full ^ bits)
    if holds_on(step, day):
        return (ways.full, 0)
    return (0, ways.full)


def condition_value(steps, day, ways):
    """The value, on this day, of the condition of these steps."""
    values = []
    for step in steps:
        kind = step[0]
        if kind == "not":
            inner = values.pop()
            values.append((inner[1], inner[0]))
        elif kind == "and":
            right = values.pop()
            values.append(both(values.pop(), right))
        elif kind == "or":
            right = values.pop()
            values.append(either(values.pop(), right))
        else:
            values.append(plain_value(step, day, ways))
    return values[0]


def rule_value(rule, day, ways):
    """The rule's value on this day: yes in the ways of which it doesn't speak."""
    spoken_of = 0
    if rule.first <= day <= rule.last:
        spoken_of = bits_of_ranks(ways, rule.lowest, rule.highest)
    if spoken_of == 0:
        return (ways.full, 0)
    return either(condition_value(rule.steps, day, ways), (ways.full ^ spoken_of, spoken_of))


def passing_value(rules, day, ways):
    """The value that's yes where all these rules are, no where one is no, else open."""
    value = (ways.full, 0)
    for rule in rules:
        value = both(value, rule_value(rule, day, ways))
    return value
