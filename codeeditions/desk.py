"""The calls on one object, one behind another in one list of whole numbers, and their answers."""

from codeeditions.bounds import is_day
from codeeditions.conditions import reading_of
from codeeditions.editions import edition_in_force
from codeeditions.entry import add_edition, add_flag, add_name, add_rule, learn_fact
from codeeditions.records import Code
from codeeditions.signs import row_of, signs_of
from codeeditions.writing import written_signs


def answer_flag(code, numbers, row):
    return [add_flag(code, numbers[0], signs_of(row))]


def answer_rule(code, numbers, row):
    return [add_rule(code, numbers[0], numbers[1], numbers[2], numbers[3], numbers[4], signs_of(row))]


def answer_text(code, numbers, row):
    if numbers[0] not in code.rules:
        return [-1]
    return [0] + row_of(written_signs(code.rules[numbers[0]].steps))


def answer_form(code, numbers, row):
    reading = reading_of(signs_of(row), code.flag_keys)
    if reading.refusal < 0:
        return [reading.refusal]
    return [0] + row_of(reading.signs)


def answer_edition(code, numbers, row):
    return [add_edition(code, numbers[0], numbers[1], numbers[2], row)]


def answer_name(code, numbers, row):
    return [add_name(code, numbers[0], numbers[1], numbers[2])]


def answer_learn(code, numbers, row):
    return [learn_fact(code, numbers[0], numbers[1], numbers[2])]


def answer_facts(code, numbers, row):
    if numbers[0] not in code.names:
        return [-1]
    facts = code.names[numbers[0]].facts
    answer = [len(facts)]
    for key in sorted(facts):
        answer.append(key)
        answer.append(facts[key])
    return answer


def answer_force(code, numbers, row):
    if not is_day(numbers[0]):
        return [-1]
    edition = edition_in_force(code, numbers[0])
    if edition is None:
        return [0]
    return [edition.key]


# The next three go by the calls' numbers.
CALLS = (
    answer_flag,
    answer_rule,
    answer_text,
    answer_form,
    answer_edition,
    answer_name,
    answer_learn,
    answer_facts,
    answer_force,
)
WHOLE_NUMBERS = (1, 5, 1, 0, 3, 3, 3, 1, 1)
WITH_ROW = (True, True, False, True, True, False, False, False, False)


def answers(calls):
    """For each call, in order, how many numbers are answered, and these."""
    code = Code()
    answered = []
    at = 0
    while at < len(calls):
        call = calls[at]
        end = at + 1 + WHOLE_NUMBERS[call]
        numbers = calls[at + 1:end]
        row = []
        if WITH_ROW[call]:
            row = calls[end + 1:end + 1 + calls[end]]
            end += 1 + len(row)
        answer_call = CALLS[call]
        answer = answer_call(code, numbers, row)
        answered.append(len(answer))
        answered.extend(answer)
        at = end
    return answered
