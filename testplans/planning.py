"""Answers lists of calls on one object that holds a plan."""

from testplans.faults import Fault
from testplans.orders import best_order, expected_cost, is_order, rule_order
from testplans.plans import Plan
from testplans.reading import read_plan
from testplans.writing import written_plan

LONGEST_TEXT = 4096
GREATEST_BYTE = 255

NO_BYTE = -1
TOO_LONG = -2
NO_ORDER = -12


class Holder:
    """The object on which the calls are made."""

    def __init__(self):
        self.plan = Plan()


class CallReader:
    """Goes through a list of calls number by number."""

    def __init__(self, calls):
        self.calls = calls
        self.place = 0

    def more(self):
        """Whether there is a further call."""
        return self.place < len(self.calls)

    def take_one(self):
        """The next number."""
        number = self.calls[self.place]
        self.place += 1
        return number

    def take_row(self):
        """The next list, ahead of which its length stands."""
        start = self.place + 1
        self.place = start + self.calls[self.place]
        return self.calls[start:self.place]


def answer_load(holder, reader):
    """load: a text's bytes."""
    text = reader.take_row()
    if not all([0 <= byte <= GREATEST_BYTE for byte in text]):
        return [NO_BYTE]
    if len(text) > LONGEST_TEXT:
        return [TOO_LONG]
    try:
        plan = read_plan(text)
    except Fault as fault:
        return [1, fault.kind, fault.place]
    holder.plan = plan
    return [0, len(plan.groups), len(plan.tests)]


def answer_written(holder, reader):
    """written: nothing."""
    return [0] + written_plan(holder.plan)


def answer_expected(holder, reader):
    """expected: an order."""
    order = reader.take_row()
    if not is_order(holder.plan, order):
        return [NO_ORDER]
    return [0, expected_cost(holder.plan, order)]


def answer_best(holder, reader):
    """best: nothing."""
    return answer_order(holder.plan, best_order(holder.plan))


def answer_rule(holder, reader):
    """rule: nothing."""
    return answer_order(holder.plan, rule_order(holder.plan))


def answer_order(plan, order):
    """What is answered of an order that was looked for."""
    return [0, expected_cost(plan, order)] + order


# By the numbers of the calls.
CALLS = (answer_load, answer_written, answer_expected, answer_best, answer_rule)


def answers(calls):
    """What is answered to a list of calls: for each how many numbers, then these."""
    holder = Holder()
    reader = CallReader(calls)
    answered = []
    while reader.more():
        answer_call = CALLS[reader.take_one()]
        answer = answer_call(holder, reader)
        answered.append(len(answer))
        answered.extend(answer)
    return answered
