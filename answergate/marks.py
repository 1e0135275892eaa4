"""Health marks: whether a server counts as up, and when it is looked at next."""

from answergate.basics import is_integer
from answergate.errors import BadBool, BadMark, BadNumber, BadRule

RULE_MOST = 99


def is_health_rule(thing):
    if not isinstance(thing, tuple) or len(thing) != 4:
        return False
    if not all([is_integer(number) and 1 <= number <= RULE_MOST for number in thing]):
        return False
    _, _, first, most = thing
    return first <= most


def is_mark(rule, thing):
    """Whether any value is a mark that looks can lead to from the new one."""
    if not is_health_rule(rule):
        raise BadRule(rule)
    if not isinstance(thing, tuple) or len(thing) != 4:
        return False
    is_up, run, wait, due = thing
    if not isinstance(is_up, bool) or not all([is_integer(number) for number in (run, wait, due)]):
        return False
    if run < 0 or due < wait:
        return False
    rise, fall, first, _ = rule
    if is_up:
        return run < fall and wait == first
    if run > 0:
        return run < rise and wait == first
    return wait in doubled_waits(rule)


def doubled_waits(rule):
    """The waits of a server that is down after one bad look more, as often as one likes."""
    _, _, first, most = rule
    waits = [min(2 * first, most)]
    while waits[-1] < most:
        waits.append(min(2 * waits[-1], most))
    return waits


def new_mark(rule):
    if not is_health_rule(rule):
        raise BadRule(rule)
    _, _, first, _ = rule
    return (True, 0, first, first)


def looked(rule, mark, is_good, now):
    """The mark after a look at this time."""
    if not is_mark(rule, mark):
        raise BadMark(mark)
    if not isinstance(is_good, bool):
        raise BadBool(is_good)
    if not is_integer(now) or now < 0:
        raise BadNumber(now)
    rise, fall, first, most = rule
    is_up, run, wait, _ = mark
    run = 0 if is_good == is_up else run + 1
    if run == (fall if is_up else rise):
        is_up, run = not is_up, 0
    wait = first if is_good or is_up else min(2 * wait, most)
    return (is_up, run, wait, now + wait)


def is_due(rule, mark, now):
    """Whether a look is due at this time."""
    if not is_mark(rule, mark):
        raise BadMark(mark)
    if not is_integer(now) or now < 0:
        raise BadNumber(now)
    return now >= mark[3]
