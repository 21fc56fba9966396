"""A plan, its groups and its tests."""

# Chances are told in hundredths.
HUNDRED = 100


class Group:
    """A group of tests that share a setup."""

    def __init__(self, name, setup):
        self.name = name
        self.setup = setup


class Test:
    """A test; its group is a group's number or None, after holds tests' numbers as they were told."""

    def __init__(self, name, cost, chance, group, after):
        self.name = name
        self.cost = cost
        self.chance = chance
        self.group = group
        self.after = after


class Plan:
    """Groups and tests, each numbered from 0 in the order in which they were told."""

    def __init__(self):
        self.groups = []
        self.tests = []


def number_of(members, name):
    """The number of the group or test that has a name, or None."""
    for number, member in enumerate(members):
        if member.name == name:
            return number
    return None


def may_follow(plan, number, others):
    """Whether all tests behind which a test must run are among some others."""
    return all([earlier in others for earlier in plan.tests[number].after])


def cost_together(plan, numbers):
    """What some tests cost, and once the setup of each group among them."""
    cost = 0
    ready = []
    for number in numbers:
        test = plan.tests[number]
        cost += test.cost
        if test.group is not None and test.group not in ready:
            cost += plan.groups[test.group].setup
            ready.append(test.group)
    return cost
