"""The one form of a plan's text."""


def written_plan(plan):
    """The bytes of a plan's one form."""
    lines = [group_line(group) for group in plan.groups]
    lines.extend([test_line(plan, test) for test in plan.tests])
    return [ord(character) for character in "".join(lines)]


def group_line(group):
    """The line that tells a group."""
    name = group.name
    setup = group.setup
    return f"group {name} {setup};\n"


def test_line(plan, test):
    """The line that tells a test."""
    name = test.name
    cost = test.cost
    chance = test.chance
    group = in_part(plan, test)
    after = after_part(plan, test)
    return f"test {name} cost {cost} chance {chance}{group}{after};\n"


def in_part(plan, test):
    """What tells a test's group."""
    if test.group is None:
        return ""
    name = plan.groups[test.group].name
    return f" in {name}"


def after_part(plan, test):
    """What tells the tests behind which a test must run."""
    if not test.after:
        return ""
    names = ", ".join([plan.tests[number].name for number in test.after])
    return f" after {names}"
