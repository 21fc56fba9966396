"""What the tests share: calls put into one list, its answers taken apart, and the example."""

import itertools
import random
from fractions import Fraction

from testplans.planning import answers

EXAMPLE = ("group db 5; test a cost 10 chance 50; test b cost 2 chance 10 in db; "
           "test c cost 4 chance 20 in db after a;")

EXAMPLE_FORM = ("group db 5;\n"
                "test a cost 10 chance 50;\n"
                "test b cost 2 chance 10 in db;\n"
                "test c cost 4 chance 20 in db after a;\n")

WRITTEN = [1]
BEST = [3]
RULE = [4]
SIZE = [9]


def load(text):
    """The call load, of a str (its bytes are those of Latin-1) or of a list of numbers."""
    numbers = list(text.encode("latin-1")) if isinstance(text, str) else list(text)
    return [0, len(numbers)] + numbers


def expected(*order):
    return [2, len(order)] + list(order)


def machines(many):
    return [5, many]


def time(many, *way):
    return [6, many, len(way)] + list(way)


def budget(most):
    return [7, most]


def choice(*chosen):
    return [8, len(chosen)] + list(chosen)


def ask(*calls):
    """The answer to each call, when they are made in one list."""
    given = [number for call in calls for number in call]
    answered = answers(given)
    found = []
    at = 0
    while at < len(answered):
        count = answered[at]
        found.append(answered[at + 1:at + 1 + count])
        at += 1 + count
    if at != len(answered) or len(found) != len(calls):
        raise AssertionError("the counts do not fit: %r" % (answered,))
    return found


def ask_of(text, *calls):
    """The answers to calls behind a load that must go well."""
    found = ask(load(text), *calls)
    if found[0][0] != 0:
        raise AssertionError("%r is not loaded: %r" % (text, found[0]))
    return found[1:]


def ask_kept(text, *calls):
    """The answers to calls behind a load that must go well, each of which must leave the plan as it was."""
    form = ask_of(text, WRITTEN)[0]
    found = ask_of(text, *[part for call in calls for part in (call, WRITTEN)])
    for call, kept in zip(calls, found[1::2]):
        if kept != form:
            raise AssertionError("the plan is changed by %r: %r" % (call, kept))
    return found[::2]


def written_text(answer):
    """What written answered, as a str."""
    if answer[0] != 0:
        raise AssertionError(answer)
    return bytes(answer[1:]).decode("ascii")


def plan_text(setups, tests):
    """A plan's text. Each test is (cost, chance, group's number or None, numbers of tests ahead of it)."""
    lines = ["group g%d %d;" % (number, setup) for number, setup in enumerate(setups)]
    for number, (cost, chance, group, after) in enumerate(tests):
        line = "test t%d cost %d chance %d" % (number, cost, chance)
        if group is not None:
            line += " in g%d" % group
        if after:
            line += " after " + ", ".join("t%d" % earlier for earlier in after)
        lines.append(line + ";")
    return "\n".join(lines)


def some_plans(how_many, most_tests, seed):
    """Plans as (setups, tests), alike whenever they are asked for, many costs and chances alike in them."""
    chosen = random.Random(seed)
    plans = []
    for turn in range(how_many):
        setups = [chosen.choice((0, 1, 5, 1000, chosen.randint(0, 20))) for group in range(chosen.randint(0, 3))]
        groups = [None] + list(range(len(setups)))
        tests = []
        for number in range(chosen.randint(0, most_tests)):
            cost = chosen.choice((1, 2, 4, 10, 1000, chosen.randint(1, 30)))
            chance = chosen.choice((0, 10, 20, 50, 100, chosen.randint(0, 100)))
            after = [earlier for earlier in range(number) if chosen.random() < 0.2]
            chosen.shuffle(after)
            tests.append((cost, chance, chosen.choice(groups), after))
        plans.append((setups, tests))
    return plans


def orders_of(tests):
    """All orders of some tests, those with the lower numbers ahead."""
    return [order for order in itertools.permutations(range(len(tests))) if stands_behind(tests, order)]


def stands_behind(tests, order):
    """Whether each test stands behind those behind which it must run."""
    return all(order.index(earlier) < at for at, number in enumerate(order) for earlier in tests[number][3])


def told_cost(setups, tests, order):
    """An order's expected cost, times 100 for each test: each test's costs by the chance that it is run."""
    cost = Fraction(0)
    run = Fraction(1)
    ready = None
    for number in order:
        own, chance, group, after = tests[number]
        if group is not None and group != ready:
            own += setups[group]
            ready = group
        cost += run * own
        run *= Fraction(100 - chance, 100)
    return int(cost * 100 ** len(order))


def cost_together(setups, tests, numbers):
    """What some tests cost, and once the setup of each group among them."""
    groups = {tests[number][2] for number in numbers} - {None}
    return sum(tests[number][0] for number in numbers) + sum(setups[group] for group in groups)
