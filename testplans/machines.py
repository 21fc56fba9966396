"""Ways to give a plan's tests to machines: their times, the best one.

A way is a machine's number for each test, in order.
"""

from testplans.plans import cost_together


def is_way(plan, many, way):
    """Whether a list is a machine for each test."""
    if len(way) != len(plan.tests):
        return False
    return all([0 <= machine < many for machine in way])


def time_of_all(plan, many, way):
    """The greatest time of the machines."""
    return max([time_of_one(plan, way, machine) for machine in range(many)])


def time_of_one(plan, way, machine):
    """One machine's time."""
    return cost_together(plan, [number for number, given in enumerate(way) if given == machine])


def best_way(plan, many):
    """The first way with the least time."""
    # min gives the first of alike ones, and the ways are in order.
    return min(all_ways(many, len(plan.tests)), key=lambda way: time_of_all(plan, many, way))


def all_ways(many, count):
    """All ways to give that many tests to machines: in order by the first test's machine, and so on."""
    ways = [[]]
    for number in range(count):
        longer = []
        for way in ways:
            longer.extend([way + [machine] for machine in range(many)])
        ways = longer
    return ways
