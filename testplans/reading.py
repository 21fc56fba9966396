"""Reads a plan from its text, up to the first fault."""

from testplans.faults import MISPLACED, OUT_OF_RANGE, REPEATED, TOO_MANY, UNENDED, UNKNOWN, Fault
from testplans.plans import Group, Plan, Test, number_of
from testplans.scanning import END, NUMBER, WORD, token_from

KEYWORDS = ("group", "test", "cost", "chance", "in", "after")
MOST_GROUPS = 3
MOST_TESTS = 7
MOST_CHANCE = 100


class Reader:
    """Stands in a text, ahead of the tokens that were not taken yet."""

    def __init__(self, text):
        self.text = text
        self.place = 0

    def ahead(self):
        """The next token, which is not taken."""
        return token_from(self.text, self.place)

    def stands(self, written):
        """Whether a word or sign is the next token."""
        return self.ahead().written == written

    def take(self):
        """The next token, wherever one is still wanted."""
        token = self.ahead()
        if token.kind == END:
            raise Fault(UNENDED, token.place)
        self.place = token.place + len(token.written)
        return token

    def take_written(self, written):
        """The next token, which must be a word or sign that is told."""
        token = self.take()
        if token.written != written:
            raise Fault(MISPLACED, token.place)
        return token

    def take_name(self):
        """The next token, which must be a name."""
        token = self.take()
        if token.kind != WORD or token.written in KEYWORDS:
            raise Fault(MISPLACED, token.place)
        return token

    def take_number(self):
        """The next token, which must be a number."""
        token = self.take()
        if token.kind != NUMBER:
            raise Fault(MISPLACED, token.place)
        return token


def read_plan(text):
    """The plan that a text tells; raises its first Fault."""
    reader = Reader(text)
    plan = Plan()
    while reader.ahead().kind != END:
        if reader.stands("group"):
            plan.groups.append(read_group(reader, plan))
        else:
            plan.tests.append(read_test(reader, plan))
    return plan


def read_group(reader, plan):
    """The group that stands next."""
    begin_member(reader, "group", plan.groups, MOST_GROUPS)
    name = read_new_name(reader, plan.groups)
    setup = int(reader.take_number().written)
    reader.take_written(";")
    return Group(name, setup)


def read_test(reader, plan):
    """The test that stands next."""
    begin_member(reader, "test", plan.tests, MOST_TESTS)
    name = read_new_name(reader, plan.tests)
    cost = read_cost(reader)
    chance = read_chance(reader)
    group = read_in(reader, plan)
    after = read_after(reader, plan)
    reader.take_written(";")
    return Test(name, cost, chance, group, after)


def begin_member(reader, keyword, members, most):
    """Takes the word at which a group or test begins, if there is room for one more."""
    token = reader.take_written(keyword)
    if len(members) == most:
        raise Fault(TOO_MANY, token.place)


def read_new_name(reader, members):
    """A name that none of the groups, or of the tests, has."""
    token = reader.take_name()
    if number_of(members, token.written) is not None:
        raise Fault(REPEATED, token.place)
    return token.written


def read_known_name(reader, members):
    """The token of a name that one of the groups, or of the tests, has."""
    token = reader.take_name()
    if number_of(members, token.written) is None:
        raise Fault(UNKNOWN, token.place)
    return token


def read_cost(reader):
    """A test's cost."""
    reader.take_written("cost")
    token = reader.take_number()
    cost = int(token.written)
    if cost == 0:
        raise Fault(OUT_OF_RANGE, token.place)
    return cost


def read_chance(reader):
    """A test's chance."""
    reader.take_written("chance")
    token = reader.take_number()
    chance = int(token.written)
    if chance > MOST_CHANCE:
        raise Fault(OUT_OF_RANGE, token.place)
    return chance


def read_in(reader, plan):
    """The number of a test's group, or None."""
    if not reader.stands("in"):
        return None
    reader.take()
    token = read_known_name(reader, plan.groups)
    return number_of(plan.groups, token.written)


def read_after(reader, plan):
    """The numbers of the tests behind which a test must run, as they are told."""
    after = []
    if not reader.stands("after"):
        return after
    reader.take()
    after.append(read_after_name(reader, plan, after))
    while reader.stands(","):
        reader.take()
        after.append(read_after_name(reader, plan, after))
    return after


def read_after_name(reader, plan, after):
    """The number of an earlier test that was not told behind this after yet."""
    token = read_known_name(reader, plan.tests)
    number = number_of(plan.tests, token.written)
    if number in after:
        raise Fault(REPEATED, token.place)
    return number
