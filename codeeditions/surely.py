"""What's sure of a name whatever the unknown flags are, and which fewest facts would settle it."""

from codeeditions.bounds import MOST_UNKNOWN_FOR_SETTLE, MOST_UNKNOWN_FOR_SURE, is_day
from codeeditions.editions import editions_in_play, editions_looked_at
from codeeditions.judging import rules_of, ways_of_name
from codeeditions.spread import Spread
from codeeditions.values import either, passing_value


def question_refusal(code, name_key, view):
    """What sure and settle refuse alike, in the order told; 0 if it's nothing of that."""
    if name_key not in code.names:
        return -1
    if not is_day(view):
        return -2
    if view < code.names[name_key].day:
        return -3
    if len(editions_in_play(code, view)) == 0:
        return -4
    return 0


def speaks_of(rule, name):
    return rule.first <= name.day <= rule.last and rule.lowest <= name.rank <= rule.highest


def unknown_flags(code, name, view):
    """The keys, ascending, of the flags in the rules looked at of which no fact is known."""
    found = []
    for edition in editions_looked_at(editions_in_play(code, view), name):
        for rule in rules_of(code, edition):
            if speaks_of(rule, name):
                found.extend([key for key in rule.flag_keys if key not in name.facts])
    return sorted(set(found))


def available_bits(code, name, view, spread):
    """The bits of the ways, of the unknown flags spread out, in which the name is available."""
    ways = ways_of_name(code, name, spread)
    value = (0, ways.full)
    for edition in editions_looked_at(editions_in_play(code, view), name):
        value = either(value, passing_value(rules_of(code, edition), name.day, ways))
    return value[0]


def sure_answer(code, name_key, view):
    refusal = question_refusal(code, name_key, view)
    if refusal < 0:
        return [refusal]
    name = code.names[name_key]
    unknown = unknown_flags(code, name, view)
    if len(unknown) > MOST_UNKNOWN_FOR_SURE:
        return [-5]
    spread = Spread(unknown)
    available = available_bits(code, name, view, spread)
    if available == spread.full:
        return [1]
    if available == 0:
        return [0]
    return [2]


class Supposal:
    """A list of facts that might be learned, told as settle answers it; left has the ways that agree with them."""

    def __init__(self, pairs, left, later_keys):
        self.pairs = pairs
        self.left = left
        # A list's facts are by flags' keys ascending, so only these may still follow.
        self.later_keys = later_keys


def longer_supposals(supposals, spread):
    """Those with one fact more; if the given ones are in the document's order, so are these."""
    longer = []
    for supposal in supposals:
        for place, key in enumerate(supposal.later_keys):
            later_keys = supposal.later_keys[place + 1:]
            without = supposal.left & (spread.full ^ spread.bits[key])
            longer.append(Supposal(supposal.pairs + [key, 0], without, later_keys))
            longer.append(Supposal(supposal.pairs + [key, 1], supposal.left & spread.bits[key], later_keys))
    return longer


def settling_answer(unknown, spread, wanted):
    """The first list after which only wanted ways are left, shorter lists first."""
    supposals = [Supposal([], spread.full, unknown)]
    while len(supposals) > 0:
        for supposal in supposals:
            if supposal.left & wanted == supposal.left:
                return [len(supposal.pairs) // 2] + supposal.pairs
        supposals = longer_supposals(supposals, spread)
    return [-7]


def settle_answer(code, name_key, view, want):
    refusal = question_refusal(code, name_key, view)
    if refusal < 0:
        return [refusal]
    if want not in (0, 1):
        return [-5]
    name = code.names[name_key]
    unknown = unknown_flags(code, name, view)
    if len(unknown) > MOST_UNKNOWN_FOR_SETTLE:
        return [-6]
    spread = Spread(unknown)
    wanted = available_bits(code, name, view, spread)
    if want == 0:
        wanted = spread.full ^ wanted
    return settling_answer(unknown, spread, wanted)
