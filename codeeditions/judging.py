"""What's known of names by the editions: their status."""

from codeeditions.bounds import HIGHEST_RANK, is_day
from codeeditions.editions import editions_in_play, editions_looked_at
from codeeditions.spread import Spread
from codeeditions.values import Ways, either, passing_value, rule_value

NOT_AVAILABLE = 0
AVAILABLE = 1
UNDECIDED = 2
NOT_YET_NAMED = 3
NO_EDITION = 4


def ways_of_name(code, name, spread):
    """The name with its facts, in each way that the flags spread out are yes or no; other flags are open."""
    flag_values = {}
    for key in spread.bits:
        flag_values[code.flag_texts[key]] = (spread.bits[key], spread.full ^ spread.bits[key])
    for key in name.facts:
        flag_values[code.flag_texts[key]] = (spread.full, 0) if name.facts[key] == 1 else (0, spread.full)
    rank_bits = [spread.full if rank == name.rank else 0 for rank in range(HIGHEST_RANK + 1)]
    return Ways(spread.full, rank_bits, flag_values)


def rules_of(code, edition):
    return [code.rules[key] for key in edition.rule_keys]


def verdict(value):
    """0, 1 or 2 of a value in a single way."""
    if value == (1, 0):
        return AVAILABLE
    if value == (0, 1):
        return NOT_AVAILABLE
    return UNDECIDED


def passing_of_name(code, edition, name):
    """The value with which a name passes an edition, with the facts that are known."""
    if edition.key not in name.passings:
        ways = ways_of_name(code, name, Spread([]))
        name.passings[edition.key] = passing_value(rules_of(code, edition), name.day, ways)
    return name.passings[edition.key]


def status_of(code, name, view, in_play):
    """The status on a view day on which these editions are in play, the latest first."""
    if view < name.day:
        return NOT_YET_NAMED
    if len(in_play) == 0:
        return NO_EDITION
    value = (0, 1)
    for edition in editions_looked_at(in_play, name):
        value = either(value, passing_of_name(code, edition, name))
    return verdict(value)


def rules_by_verdict(code, edition, name):
    """The keys, ascending, of the edition's rules that the name fails; and of those that are open for it."""
    ways = ways_of_name(code, name, Spread([]))
    failing = []
    undecided = []
    for key in sorted(edition.rule_keys):
        result = verdict(rule_value(code.rules[key], name.day, ways))
        if result == NOT_AVAILABLE:
            failing.append(key)
        elif result == UNDECIDED:
            undecided.append(key)
    return (failing, undecided)


def status_answer(code, name_key, view):
    if name_key not in code.names:
        return [-1]
    if not is_day(view):
        return [-2]
    name = code.names[name_key]
    in_play = editions_in_play(code, view)
    status = status_of(code, name, view, in_play)
    if status in (NOT_YET_NAMED, NO_EDITION):
        return [status, 0, 0, 0]
    lists = rules_by_verdict(code, in_play[0], name)
    return [status, in_play[0].key, len(lists[0])] + lists[0] + [len(lists[1])] + lists[1]


def statuses_on(code, view):
    """By names' keys, ascending, the statuses on this view day."""
    in_play = editions_in_play(code, view)
    statuses = {}
    for key in sorted(code.names):
        statuses[key] = status_of(code, code.names[key], view, in_play)
    return statuses


def list_answer(code, status, view):
    if status < NOT_AVAILABLE or status > NO_EDITION:
        return [-1]
    if not is_day(view):
        return [-2]
    statuses = statuses_on(code, view)
    found = [key for key in statuses if statuses[key] == status]
    return [len(found)] + found


def changes_answer(code, early, late):
    if not is_day(early):
        return [-1]
    if not is_day(late):
        return [-2]
    before = statuses_on(code, early)
    behind = statuses_on(code, late)
    changed = [key for key in before if before[key] != behind[key]]
    answer = [len(changed)]
    for key in changed:
        answer.extend([key, before[key], behind[key]])
    return answer
