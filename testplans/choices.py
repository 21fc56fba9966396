"""Choices of a plan's tests: how they miss, what they must have, the best one within a budget.

Misses are told times 100 for each test of the plan, so that they are whole.
"""

from testplans.plans import HUNDRED, cost_together, may_follow


def are_tests(plan, numbers):
    """Whether a list holds tests alone, each at most once."""
    if not all([0 <= number < len(plan.tests) for number in numbers]):
        return False
    return len(set(numbers)) == len(numbers)


def is_choice(plan, chosen):
    """Whether some tests have among them, with each one, those behind which it must run."""
    return all([may_follow(plan, number, chosen) for number in chosen])


def miss_of(plan, chosen):
    """How a choice misses."""
    miss = 1
    for number, test in enumerate(plan.tests):
        if number in chosen:
            miss *= HUNDRED - test.chance
        else:
            miss *= HUNDRED
    return miss


def best_choice(plan, most):
    """The best choice that costs at most that, rising."""
    possible = [chosen for chosen in all_choices(plan) if cost_together(plan, chosen) <= most]
    # min gives the first of alike ones, and the choices are in order.
    return min(possible, key=lambda chosen: (miss_of(plan, chosen), cost_together(plan, chosen)))


def all_choices(plan):
    """All choices, each rising: those with the first test ahead of those without it, and so on."""
    return [chosen for chosen in all_parts(len(plan.tests)) if is_choice(plan, chosen)]


def all_parts(count):
    """All lists of some of the numbers below count, in the order that all_choices tells."""
    parts = [[]]
    for number in range(count):
        longer = []
        for part in parts:
            longer.append(part + [number])
            longer.append(part)
        parts = longer
    return parts
