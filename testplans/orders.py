"""Orders of a plan's tests: their expected costs, the best one, the one by the rule.

Expected costs are told times 100 for each test that is left, so that they are whole.
"""

from testplans.plans import HUNDRED, may_follow


def is_order(plan, order):
    """Whether a list has each test once, each behind those behind which it must run."""
    if sorted(order) != list(range(len(plan.tests))):
        return False
    ran = []
    for number in order:
        if not may_follow(plan, number, ran):
            return False
        ran.append(number)
    return True


def may_run_next(plan, ran):
    """The tests that may run next behind some others, rising."""
    left = [number for number in range(len(plan.tests)) if number not in ran]
    return [number for number in left if may_follow(plan, number, ran)]


def cost_with_setup(plan, number, ready):
    """What a test costs while a group (or None) is set up."""
    test = plan.tests[number]
    if test.group is None or test.group == ready:
        return test.cost
    return test.cost + plan.groups[test.group].setup


def ready_behind(plan, number, ready):
    """The group that is set up behind a test, ahead of which one (or None) was."""
    group = plan.tests[number].group
    if group is None:
        return ready
    return group


def cost_from(plan, number, ready, scale, rest):
    """The expected cost from a test on; scale is 100 for each test behind it, rest is their cost."""
    cost = cost_with_setup(plan, number, ready)
    return cost * scale * HUNDRED + (HUNDRED - plan.tests[number].chance) * rest


def expected_cost(plan, order):
    """The expected cost of an order."""
    steps = []
    ready = None
    for number in order:
        steps.append((number, ready))
        ready = ready_behind(plan, number, ready)
    scale = 1
    rest = 0
    for number, ready_ahead in reversed(steps):
        rest = cost_from(plan, number, ready_ahead, scale, rest)
        scale *= HUNDRED
    return rest


def best_order(plan):
    """The best order."""
    table = best_table(plan)
    order = []
    ready = None
    while len(order) < len(plan.tests):
        number = table[(mask_of(order), ready)][1]
        order.append(number)
        ready = ready_behind(plan, number, ready)
    return order


def best_table(plan):
    """What best_step tells for each mask of tests that ran and each group that may be set up."""
    table = {}
    # A greater mask is filled first: each step looks at masks with one test more alone.
    for mask in range((1 << len(plan.tests)) - 1, -1, -1):
        ran = [number for number in range(len(plan.tests)) if mask & (1 << number)]
        table[(mask, None)] = best_step(plan, table, ran, None)
        for ready in range(len(plan.groups)):
            table[(mask, ready)] = best_step(plan, table, ran, ready)
    return table


def best_step(plan, table, ran, ready):
    """The least expected cost of the tests that are left, and which of them is next (None behind all)."""
    best = (0, None)
    scale = scale_of(len(plan.tests) - len(ran) - 1)
    for number in may_run_next(plan, ran):
        mask = mask_of(ran) | (1 << number)
        rest = table[(mask, ready_behind(plan, number, ready))][0]
        cost = cost_from(plan, number, ready, scale, rest)
        if best[1] is None or cost < best[0]:
            best = (cost, number)
    return best


def mask_of(numbers):
    """Tests as one number, in which each has its bit."""
    return sum([1 << number for number in numbers])


def scale_of(count):
    """100 multiplied that many times (1 for a count below 1)."""
    scale = 1
    for step in range(count):
        scale *= HUNDRED
    return scale


def rule_order(plan):
    """The order by the rule."""
    order = []
    while len(order) < len(plan.tests):
        order.append(first_by_rule(plan, may_run_next(plan, order)))
    return order


def first_by_rule(plan, numbers):
    """The first of some tests such that none of them comes before it."""
    # One walk is enough: comes_before is a strict ranking, and alike ones never replace one another.
    first = numbers[0]
    for number in numbers:
        if comes_before(plan.tests[number], plan.tests[first]):
            first = number
    return first


def comes_before(test, other):
    """Whether a test comes before another one by the rule."""
    if test.chance != 0 and other.chance == 0:
        return True
    return test.cost * other.chance < other.cost * test.chance
