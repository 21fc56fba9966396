"""A plan, its groups and its tests."""


class Group:
    """A group of tests that share a setup."""

    def __init__(self, name, setup):
        self.name = name
        self.setup = setup


class Test:
    """A test; its group is a group's number or None, after holds tests' numbers as they were told."""

    def __init__(self, name, cost, chance, group, after):
        self.name = name
        self.cost = cost
        self.chance = chance
        self.group = group
        self.after = after


class Plan:
    """Groups and tests, each numbered from 0 in the order in which they were told."""

    def __init__(self):
        self.groups = []
        self.tests = []


def number_of(members, name):
    """The number of the group or test that has a name, or None."""
    for number, member in enumerate(members):
        if member.name == name:
            return number
    return None
