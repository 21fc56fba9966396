"""Answers lists of calls on one object that holds a plan."""

from testplans.choices import are_tests, best_choice, is_choice, miss_of
from testplans.faults import Fault
from testplans.machines import best_way, is_way, time_of_all
from testplans.orders import best_order, expected_cost, is_order, rule_order
from testplans.plans import Plan, cost_together
from testplans.reading import read_plan
from testplans.writing import written_plan

LONGEST_TEXT = 4096
GREATEST_BYTE = 255
MOST_MACHINES = 3
GREATEST_BUDGET = 100000

NO_BYTE = -1
TOO_LONG = -2
BAD_NUMBER = -7
BAD_LIST = -12


class Holder:
    """The object on which the calls are made."""

    def __init__(self):
        self.plan = Plan()


class CallReader:
    """Goes through a list of calls number by number."""

    def __init__(self, calls):
        self.calls = calls
        self.place = 0

    def more(self):
        """Whether there is a further call."""
        return self.place < len(self.calls)

    def take_one(self):
        """The next number."""
        number = self.calls[self.place]
        self.place += 1
        return number

    def take_row(self):
        """The next list, ahead of which its length stands."""
        start = self.place + 1
        self.place = start + self.calls[self.place]
        return self.calls[start:self.place]


def answer_load(holder, reader):
    """load: a text's bytes."""
    text = reader.take_row()
    if not all([0 <= byte <= GREATEST_BYTE for byte in text]):
        return [NO_BYTE]
    if len(text) > LONGEST_TEXT:
        return [TOO_LONG]
    try:
        plan = read_plan(text)
    except Fault as fault:
        return [1, fault.kind, fault.place]
    holder.plan = plan
    return [0, len(plan.groups), len(plan.tests)]


def answer_written(holder, reader):
    """written: nothing."""
    return [0] + written_plan(holder.plan)


def answer_expected(holder, reader):
    """expected: an order."""
    order = reader.take_row()
    if not is_order(holder.plan, order):
        return [BAD_LIST]
    return [0, expected_cost(holder.plan, order)]


def answer_best(holder, reader):
    """best: nothing."""
    return answer_order(holder.plan, best_order(holder.plan))


def answer_rule(holder, reader):
    """rule: nothing."""
    return answer_order(holder.plan, rule_order(holder.plan))


def answer_order(plan, order):
    """What is answered of an order that was looked for."""
    return [0, expected_cost(plan, order)] + order


def answer_machines(holder, reader):
    """machines: how many."""
    many = reader.take_one()
    if not 1 <= many <= MOST_MACHINES:
        return [BAD_NUMBER]
    way = best_way(holder.plan, many)
    return [0, time_of_all(holder.plan, many, way)] + way


def answer_time(holder, reader):
    """time: how many, a way."""
    many = reader.take_one()
    way = reader.take_row()
    if not 1 <= many <= MOST_MACHINES:
        return [BAD_NUMBER]
    if not is_way(holder.plan, many, way):
        return [BAD_LIST]
    return [0, time_of_all(holder.plan, many, way)]


def answer_budget(holder, reader):
    """budget: the most that may be spent."""
    most = reader.take_one()
    if not 0 <= most <= GREATEST_BUDGET:
        return [BAD_NUMBER]
    chosen = best_choice(holder.plan, most)
    return answer_chosen(holder.plan, chosen) + [len(chosen)] + chosen


def answer_choice(holder, reader):
    """choice: tests."""
    chosen = reader.take_row()
    if not are_tests(holder.plan, chosen):
        return [BAD_LIST]
    if not is_choice(holder.plan, chosen):
        return [1]
    return answer_chosen(holder.plan, chosen)


def answer_chosen(plan, chosen):
    """What is answered of a choice, however it was told."""
    return [0, miss_of(plan, chosen), cost_together(plan, chosen)]


def answer_size(holder, reader):
    """size: nothing."""
    plan = holder.plan
    count = len(plan.tests)
    return [0, len(plan.groups), count, miss_of(plan, list(range(count)))]


# By the numbers of the calls.
CALLS = (answer_load, answer_written, answer_expected, answer_best, answer_rule,
         answer_machines, answer_time, answer_budget, answer_choice, answer_size)


def answers(calls):
    """What is answered to a list of calls: for each how many numbers, then these."""
    holder = Holder()
    reader = CallReader(calls)
    answered = []
    while reader.more():
        answer_call = CALLS[reader.take_one()]
        answer = answer_call(holder, reader)
        answered.append(len(answer))
        answered.extend(answer)
    return answered
