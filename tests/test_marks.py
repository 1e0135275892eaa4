"""[6.1] Marks to [6.3] What follows, and the interface of answergate/marks.py."""

import unittest
from random import Random

from answergate import marks
from answergate.errors import BadBool, BadMark, BadNumber, BadRule
from answergate.marks import is_due, is_health_rule, is_mark, looked, new_mark
from tests.checks import Checks
from tests.proxy_model import PlainMark
from tests.samples import NO_NUMBERS, NO_STRINGS, spoiled

RULE = (2, 3, 4, 10)
RULES = (RULE, (1, 1, 1, 1), (99, 99, 99, 99), (1, 1, 1, 99), (1, 2, 1, 4), (3, 1, 5, 5), (2, 2, 3, 50), (4, 4, 7, 8), (1, 99, 6, 99))
NO_INTEGERS = tuple(thing for thing in NO_NUMBERS if type(thing) is not int)
NO_BOOLS = tuple(thing for thing in NO_STRINGS if type(thing) is not bool) + ("", "True")


def some_rows(seed, many):
    """Rules with rows of looks (is_good, now), in which one result often comes several times in a row."""
    random = Random(seed)
    for _ in range(many):
        first = random.randint(1, random.choice((3, 99)))
        rule = (random.choice((1, 2, 3, 9)), random.choice((1, 2, 3, 9)), first, random.randint(first, 99))
        row, now = [], 0
        while len(row) < 40:
            is_good = random.random() < 0.5
            for _ in range(random.choice((1, 1, 2, 3, 4, 8, 12))):
                now += random.randint(0, 12)
                row.append((is_good, now))
        yield rule, row


def reached(rule):
    """All marks that follow from the new one by looks at the time 0, with their due as what it is above the wait."""
    seen, todo = set(), [new_mark(rule)[:3]]
    while todo:
        mark = todo.pop()
        if mark not in seen:
            seen.add(mark)
            for is_good in (True, False):
                plain = PlainMark(rule)
                plain.is_up, plain.run, plain.wait = mark
                plain.look(is_good, 0)
                todo.append(plain.value()[:3])
    return seen


class Interface(Checks, unittest.TestCase):

    def test_names_and_parameters(self):
        self.assert_interface(marks, {
            "is_health_rule": ["thing"], "is_mark": ["rule", "thing"], "new_mark": ["rule"],
            "looked": ["rule", "mark", "is_good", "now"], "is_due": ["rule", "mark", "now"],
        })

    def test_by_name(self):
        self.assertIs(is_health_rule(thing=RULE), True)
        self.assertIs(is_mark(thing=(True, 0, 4, 4), rule=RULE), True)
        self.assertEqual(new_mark(rule=RULE), (True, 0, 4, 4))
        self.assertEqual(looked(now=9, is_good=False, mark=(True, 0, 4, 4), rule=RULE), (True, 1, 4, 13))
        self.assertIs(is_due(now=4, mark=(True, 0, 4, 4), rule=RULE), True)


class Rules(Checks, unittest.TestCase):

    def test_bounds(self):
        for rule in RULES:
            self.assert_bool(True, is_health_rule, rule)
        for rule in ((1, 1, 1, 1), (99, 99, 99, 99)):
            for at in range(4):
                for number in (0, 100, -1, 10 ** 39, True, False, None, "1", (1,), 1.0):
                    self.assert_bool(False, is_health_rule, rule[:at] + (number,) + rule[at + 1:])
        for first, most, wanted in ((1, 99, True), (5, 5, True), (5, 4, False), (99, 1, False), (99, 98, False)):
            self.assert_bool(wanted, is_health_rule, (1, 1, first, most))
        for at in range(4):
            for number in (1, 99):
                rule = (2, 2, 1, 99)[:at] + (number,) + (2, 2, 1, 99)[at + 1:]
                self.assert_bool(True, is_health_rule, rule)

    def test_any_values(self):
        for thing in spoiled(RULE):
            right = type(thing) is tuple and len(thing) == 4 and all(type(part) is int and 1 <= part <= 99 for part in thing)
            self.assert_bool(right and thing[2] <= thing[3], is_health_rule, thing)

    def test_bad_rules(self):
        for thing in (*NO_STRINGS, list(RULE), (2, 3, 10, 4), (2, 3, 4), (2, 3, 4, 100), (0, 3, 4, 10), (True, 3, 4, 10)):
            self.assert_error(BadRule, {"thing": thing}, new_mark, thing)
            self.assert_error(BadRule, {"thing": thing}, is_mark, thing, None)
            self.assert_error(BadRule, {"thing": thing}, looked, thing, None, None, None)
            self.assert_error(BadRule, {"thing": thing}, is_due, thing, None, None)


class Marks(Checks, unittest.TestCase):

    def test_new(self):
        for rule in RULES:
            self.assert_result((True, 0, rule[2], rule[2]), new_mark, rule)

    def test_reached_and_beside(self):
        for rule in RULES:
            if max(rule[:2]) == 99:
                continue
            seen = reached(rule)
            for is_up in (True, False):
                for run in range(-1, max(rule[:2]) + 2):
                    for wait in range(0, rule[3] + 2):
                        right = (is_up, run, wait) in seen
                        self.assert_bool(right, is_mark, rule, (is_up, run, wait, wait))
                        self.assert_bool(right, is_mark, rule, (is_up, run, wait, wait + 7))
                        self.assert_bool(False, is_mark, rule, (is_up, run, wait, wait - 1))

    def test_long_runs(self):
        rule = (99, 99, 99, 99)
        self.assert_bool(True, is_mark, rule, (True, 98, 99, 99))
        self.assert_bool(False, is_mark, rule, (True, 99, 99, 99))
        self.assert_bool(True, is_mark, rule, (False, 98, 99, 99))
        self.assert_bool(False, is_mark, rule, (False, 99, 99, 99))
        self.assert_bool(False, is_mark, rule, (True, 98, 99, 98))
        self.assert_bool(True, is_mark, rule, (True, 98, 99, 10 ** 39))

    def test_any_values(self):
        for mark in ((True, 0, 4, 4), (False, 0, 8, 20), (False, 1, 4, 24), (False, 0, 10, 30)):
            self.assert_bool(True, is_mark, RULE, mark)
            for thing in spoiled(mark):
                right = type(thing) is tuple and [type(part) for part in thing] == [bool, int, int, int]
                right = right and thing[:3] in reached(RULE) and thing[3] >= thing[2]
                self.assert_bool(right, is_mark, RULE, thing)

    def test_bad_marks(self):
        for thing in (*NO_STRINGS, (True, 3, 4, 9), (True, 0, 4, 3), (False, 0, 4, 9), (1, 0, 4, 4), (True, False, 4, 4), [True, 0, 4, 4]):
            self.assert_error(BadMark, {"thing": thing}, looked, RULE, thing, None, None)
            self.assert_error(BadMark, {"thing": thing}, is_due, RULE, thing, None)


class Looks(Checks, unittest.TestCase):

    def test_rows(self):
        for rule, row in some_rows(1, 150):
            mark, plain = new_mark(rule), PlainMark(rule)
            for is_good, now in row:
                plain.look(is_good, now)
                self.assert_result(plain.value(), looked, rule, mark, is_good, now)
                mark = plain.value()
                self.assert_bool(True, is_mark, rule, mark)
                for time in (0, now, plain.due - 1, plain.due, plain.due + 1, plain.due + 10 ** 39):
                    self.assert_bool(time >= plain.due, is_due, rule, mark, time)

    def test_marked_at_the_last_of_a_run(self):
        for rule, row in some_rows(2, 100):
            rise, fall, first, most = rule
            mark, results, up = new_mark(rule), [], True
            for is_good, now in row:
                mark = looked(rule, mark, is_good, now)
                results.append(is_good)
                if up and results[-fall:] == [False] * fall or not up and results[-rise:] == [True] * rise:
                    up, results = not up, []
                self.assertIs(mark[0], up)

    def test_waits_double(self):
        for rule in RULES:
            mark = new_mark(rule)
            for _ in range(rule[1] - 1):
                mark = looked(rule, mark, False, 1)
                self.assertEqual(mark[2], rule[2])
            wait = rule[2]
            for _ in range(12):
                mark, wait = looked(rule, mark, False, 1), min(2 * wait, rule[3])
                self.assertEqual((mark[0], mark[2]), (False, wait))
            self.assertEqual(mark[2], rule[3])

    def test_times(self):
        self.assert_result((True, 1, 4, 4), looked, RULE, new_mark(RULE), False, 0)
        self.assert_result((True, 1, 4, 10 ** 39 + 4), looked, RULE, new_mark(RULE), False, 10 ** 39)
        # A look may come before it is due.
        self.assert_result((True, 0, 4, 5), looked, RULE, (True, 2, 4, 90), True, 1)

    def test_wrong_items(self):
        for thing in NO_BOOLS:
            self.assert_error(BadBool, {"thing": thing}, looked, RULE, new_mark(RULE), thing, None)
        for thing in (*NO_INTEGERS, -1, -10 ** 39):
            self.assert_error(BadNumber, {"thing": thing}, looked, RULE, new_mark(RULE), True, thing)
            self.assert_error(BadNumber, {"thing": thing}, is_due, RULE, new_mark(RULE), thing)


if __name__ == "__main__":
    unittest.main()
