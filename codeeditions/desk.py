"""The calls on one object, one behind another in one list of whole numbers, and their answers."""

from codeeditions.bounds import is_day
from codeeditions.comparing import compare_answer, core_answer, editions_answer
from codeeditions.conditions import reading_of
from codeeditions.editions import editions_in_play
from codeeditions.entry import add_edition, add_flag, add_name, add_rule, learn_fact
from codeeditions.judging import changes_answer, list_answer, status_answer
from codeeditions.records import Code
from codeeditions.signs import row_of, signs_of
from codeeditions.surely import settle_answer, sure_answer
from codeeditions.writing import written_signs


def answer_flag(code, numbers, row):
    return [add_flag(code, numbers[0], signs_of(row))]


def answer_rule(code, numbers, row):
    return [add_rule(code, numbers[0], numbers[1], numbers[2], numbers[3], numbers[4], signs_of(row))]


def answer_text(code, numbers, row):
    if numbers[0] not in code.rules:
        return [-1]
    return [0] + row_of(written_signs(code.rules[numbers[0]].steps))


def answer_form(code, numbers, row):
    reading = reading_of(signs_of(row), code.flag_keys)
    if reading.refusal < 0:
        return [reading.refusal]
    return [0] + row_of(reading.signs)


def answer_edition(code, numbers, row):
    return [add_edition(code, numbers[0], numbers[1], numbers[2], row)]


def answer_name(code, numbers, row):
    return [add_name(code, numbers[0], numbers[1], numbers[2])]


def answer_learn(code, numbers, row):
    return [learn_fact(code, numbers[0], numbers[1], numbers[2])]


def answer_facts(code, numbers, row):
    if numbers[0] not in code.names:
        return [-1]
    facts = code.names[numbers[0]].facts
    answer = [len(facts)]
    for key in sorted(facts):
        answer.append(key)
        answer.append(facts[key])
    return answer


def answer_force(code, numbers, row):
    if not is_day(numbers[0]):
        return [-1]
    in_play = editions_in_play(code, numbers[0])
    if len(in_play) == 0:
        return [0]
    return [in_play[0].key]


def answer_status(code, numbers, row):
    return status_answer(code, numbers[0], numbers[1])


def answer_sure(code, numbers, row):
    return sure_answer(code, numbers[0], numbers[1])


def answer_settle(code, numbers, row):
    return settle_answer(code, numbers[0], numbers[1], numbers[2])


def answer_compare(code, numbers, row):
    return compare_answer(code, numbers[0], numbers[1])


def answer_editions(code, numbers, row):
    return editions_answer(code, numbers[0], numbers[1])


def answer_core(code, numbers, row):
    return core_answer(code, numbers[0])


def answer_list_of(code, numbers, row):
    return list_answer(code, numbers[0], numbers[1])


def answer_changes(code, numbers, row):
    return changes_answer(code, numbers[0], numbers[1])


# The next two go by the calls' numbers.
CALLS = (
    answer_flag,
    answer_rule,
    answer_text,
    answer_form,
    answer_edition,
    answer_name,
    answer_learn,
    answer_facts,
    answer_force,
    answer_status,
    answer_sure,
    answer_settle,
    answer_compare,
    answer_editions,
    answer_core,
    answer_list_of,
    answer_changes,
)
WHOLE_NUMBERS = (1, 5, 1, 0, 3, 3, 3, 1, 1, 2, 2, 3, 2, 2, 1, 2, 2)
# flag, rule, form and edition.
WITH_ROW = (0, 1, 3, 4)


def answers(calls):
    """For each call, in order, how many numbers are answered, and these."""
    code = Code()
    answered = []
    at = 0
    while at < len(calls):
        call = calls[at]
        end = at + 1 + WHOLE_NUMBERS[call]
        numbers = calls[at + 1:end]
        row = []
        if call in WITH_ROW:
            row = calls[end + 1:end + 1 + calls[end]]
            end += 1 + len(row)
        answer_call = CALLS[call]
        answer = answer_call(code, numbers, row)
        answered.append(len(answer))
        answered.extend(answer)
        at = end
    return answered
