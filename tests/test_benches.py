"""[11.1] Scripts, [11.2] Benches, and the interface of answergate/benches.py."""

import unittest
from collections import Counter
from inspect import signature
from random import Random

from answergate import benches
from answergate.benches import Bench, opened, read_script, script_text
from answergate.errors import BadScript, BadSettings, BadStep
from answergate.worlds import new_world, world_after
from tests.checks import Checks
from tests.samples import NO_STRINGS
from tests.world_model import PROFILES, PlainWorld, Stage, world_settings

SETTINGS = ((("ann", 2),), "turns", (1, 2, 1, 4), 1, 9, 5, 3)
TWO = ((("ann", 1), ("bob", 100)), "key", (1, 9, 9, 99), 0, 99, 12, 40)
TICK = ("tick",)
HEAD = "settings turns 1 2 1 4 1 9 5 3\nhouse ann 2"
# Steps of every kind, and their lines.
STEPS = (("request", "cleo", 1, True, "k", "hi"), ("request", "cleo", 0, False, "abcdefghij", ""), ("request", "dora", 10 ** 9, True, "k", "  a b "),
         *[TICK] * 9, ("back", 1, 10), ("toward", 1, 200), ("toward", 1, 10 ** 9), ("begin", "ann", 1), ("answer", "ann", 1, 1), ("draining", "bob", True),
         ("draining", "bob", False), ("leave", "bob"), ("fall", "bob"), ("rise", "bob"), ("gone", "cleo"), ("break", 1), ("stop",), ("restart",))
LINES = ("settings key 1 9 9 99 0 99 12 40", "house ann 1", "house bob 100", "request cleo 1 once k hi", "request cleo 0 again abcdefghij ",
         "request dora 1000000000 once k   a b ", *["tick"] * 9, "back 1 10", "toward 1 200", "toward 1 1000000000", "begin ann 1", "answer ann 1 1",
         "draining bob on", "draining bob off", "leave bob", "fall bob", "rise bob", "gone cleo", "break 1", "stop", "restart")
WORDS = ("settings", "house", "request", "tick", "once", "again", "on", "off", "turns", "ann", "bob", "cleo", "k", "0", "1", "2", "99", "100", "101",
         "1000000000", "1000000001", "01", "-1", "+1", "", "True", "x" * 11, "1.0", "\u0661", "9" * 500, "tick ", "Ann")


def drawn(seed, many, size=60):
    """Settings and rows of possible steps."""
    random = Random(seed)
    for _ in range(many):
        settings = world_settings(random, random.choice((1, 2, 4)))
        stage, model, steps = Stage(random, random.choice(PROFILES)), PlainWorld(settings), []
        for _ in range(size):
            steps.append(stage.step(model))
            model.do(steps[-1])
        yield settings, tuple(steps)


def plain_lines(settings, steps):
    pool, way, rule, tries, patience, room, window = settings
    out = [f"settings {way} {rule[0]} {rule[1]} {rule[2]} {rule[3]} {tries} {patience} {room} {window}"]
    for label, weight in pool:
        out.append(f"house {label} {weight}")
    for step in steps:
        items = [str(item) for item in step]
        if step[0] == "request":
            items[3] = "once" if step[3] else "again"
        if step[0] == "draining":
            items[2] = "on" if step[2] else "off"
        out.append(" ".join(items))
    return out


def decimal(word, low, high):
    """The integer that is written so in plain decimal digits, if it is between these bounds."""
    if word.isascii() and word.isdigit() and len(word) < 20 and str(int(word)) == word and low <= int(word) <= high:
        return int(word)
    return None


def plain_fault(text):
    """The number of the first line after which no script goes on, or None; each line is judged as [11.1] says it."""
    lines = text.split("\n")
    words = lines[0].split(" ")
    bounds = ((1, 99),) * 4 + ((0, 9), (1, 99), (1, 99), (1, 40))
    if len(words) != 10 or words[0] != "settings" or words[1] not in ("turns", "busy", "key"):
        return 1
    numbers = [decimal(word, *bound) for word, bound in zip(words[2:], bounds)]
    if None in numbers or numbers[2] > numbers[3]:
        return 1
    pool, world = [], None
    for at, line in enumerate(lines[1:], 2):
        words = line.split(" ")
        if words[0] == "house" and world is None:
            weight = decimal(words[2], 1, 100) if len(words) == 3 else None
            if weight is None or not is_label(words[1]) or words[1] in dict(pool) or len(pool) == 8:
                return at
            pool.append((words[1], weight))
            continue
        if not pool:
            return at
        if world is None:
            world = PlainWorld((tuple(pool), lines[0].split(" ")[1], tuple(numbers[:4]), *numbers[4:]))
        step = plain_step(line)
        if step is None or not world.do(step):
            return at
    return None if pool else len(lines) + 1


def is_label(word):
    return 0 < len(word) < 11 and set(word) <= set("abcdefghijklmnopqrstuvwxyz")


def plain_step(line):
    """The step with this line, if there is one of this form."""
    words = line.split(" ")
    forms = {"tick": "", "stop": "", "restart": "", "gone": "w", "leave": "w", "fall": "w", "rise": "w", "break": "n", "toward": "nn", "back": "nn",
             "begin": "wn", "answer": "wnn", "draining": "ws", "request": "wnow"}
    form = forms.get(words[0])
    body = ()
    if words[0] == "request" and len(words) >= 6:
        body = (" ".join(words[5:]),)
        words = words[:5]
    elif words[0] == "request":
        return None
    if form is None or len(words) != len(form) + 1:
        return None
    items = []
    for kind, word in zip(form, words[1:]):
        bools = {"s": {"on": True, "off": False}, "o": {"once": True, "again": False}}.get(kind)
        if bools is not None and word not in bools or kind == "n" and decimal(word, 0, 10 ** 9) is None:
            return None
        items.append(word if kind == "w" else int(word) if kind == "n" else bools[word])
    return (words[0], *items, *body)


class Interface(Checks, unittest.TestCase):

    def test_names_and_parameters(self):
        self.assert_interface(benches, {
            "script_text": ["settings", "steps"], "read_script": ["text"], "Bench": ["settings"], "opened": ["text"],
        })
        methods = {"do": ["step"], "undo": [], "redo": [], "world": [], "steps": [], "undone": [], "text": []}
        for name, parameters in methods.items():
            self.assertIn(name, vars(Bench))
            self.assertEqual(list(signature(vars(Bench)[name]).parameters)[1:], parameters)

    def test_by_name(self):
        self.assertEqual(script_text(steps=(), settings=SETTINGS), HEAD)
        self.assertEqual(read_script(text=HEAD), (SETTINGS, ()))
        bench = Bench(settings=SETTINGS)
        self.assertIs(bench.do(step=TICK), None)
        self.assertEqual(opened(text=bench.text()).world(), bench.world())


class Scripts(Checks, unittest.TestCase):

    def test_by_hand(self):
        self.assert_result("\n".join(LINES), script_text, TWO, STEPS)
        self.assert_result((TWO, STEPS), read_script, "\n".join(LINES))
        self.assert_result(HEAD, script_text, SETTINGS, ())
        self.assert_result((SETTINGS, ()), read_script, HEAD)
        text = HEAD + "\nrequest cleo 1 once k "
        self.assert_result(text, script_text, SETTINGS, (("request", "cleo", 1, True, "k", ""),))
        self.assert_result((SETTINGS, (("request", "cleo", 1, True, "k", ""),)), read_script, text)

    def test_drawn(self):
        for settings, steps in drawn(1, 60):
            text = script_text(settings, steps)
            self.assertEqual(text, "\n".join(plain_lines(settings, steps)))
            self.assertEqual(repr(read_script(text)), repr((settings, steps)))
            self.assertEqual(opened(text).world(), world_after(settings, steps))
            self.assertEqual(plain_fault(text), None)

    def assert_script(self, text):
        """The text is read as the plain reading says; returns the line that it names."""
        wanted = plain_fault(text)
        if wanted is None:
            settings, steps = read_script(text)
            self.assertEqual(script_text(settings, steps), text)
        else:
            self.assert_error(BadScript, {"at": wanted}, read_script, text)
            self.assert_error(BadScript, {"at": wanted}, opened, text)
        return wanted

    def test_an_item_otherwise(self):
        seen = Counter()
        for at, line in enumerate(LINES):
            words = line.split(" ")
            for place in range(len(words)):
                changed = [words[:place] + [word] + words[place + 1:] for word in WORDS]
                changed += [words[:place] + words[place + 1:], words[:place] + [words[place]] + words[place:], words[:place] + [""] + words[place:]]
                for other in changed:
                    seen[self.assert_script("\n".join((*LINES[:at], " ".join(other), *LINES[at + 1:])))] += 1
        for at in (1, 2, 3, 4, 17, None):
            self.assertGreater(seen[at], 10, seen)

    def test_a_line_otherwise(self):
        others = (*LINES[:4], "", " ", "tick", "house cy 3", "house ann 1", "settings", "house", "request", "fly ann", "begin ann 2", "rise ann", "tick 1",
                  " tick", "request zoe 1 once k \x7f", "request zoe 1 once k \t", "request zoe 1 once k " + "x" * 150,
                  "request zoe 1 once k " + "x" * 151, "request zoe 1 once k", "request zoe 1 once k \xe9", "gone", "gone ", "\r", "tick\r", "tick\x0b")
        for at in range(len(LINES) + 1):
            self.assert_script("\n".join((*LINES[:at], *LINES[at + 1:])))
            for line in others:
                self.assert_script("\n".join((*LINES[:at], line, *LINES[at + 1:])))
                self.assert_script("\n".join((*LINES[:at], line, *LINES[at:])))

    def test_lines_missing(self):
        self.assert_error(BadScript, {"at": 2}, read_script, LINES[0])
        self.assert_error(BadScript, {"at": 1}, read_script, "")
        self.assert_error(BadScript, {"at": 1}, read_script, "\n")
        self.assert_error(BadScript, {"at": 2}, read_script, LINES[0] + "\n")
        self.assert_error(BadScript, {"at": 3}, read_script, HEAD + "\n")
        self.assert_error(BadScript, {"at": 4}, read_script, HEAD + "\ntick\n")
        self.assert_error(BadScript, {"at": 2}, read_script, LINES[0] + "\ntick")
        self.assert_error(BadScript, {"at": 1}, read_script, "\n".join(LINES[1:]))

    def test_many_houses(self):
        houses = [f"house {word} 1" for word in ("a", "b", "c", "d", "e", "f", "g", "h")]
        self.assertEqual(len(read_script("\n".join((LINES[0], *houses)))[0][0]), 8)
        self.assert_error(BadScript, {"at": 10}, read_script, "\n".join((LINES[0], *houses, "house i 1")))
        self.assert_error(BadScript, {"at": 9}, read_script, "\n".join((LINES[0], *houses[:7], "house a 1")))
        self.assert_error(BadScript, {"at": 4}, read_script, "\n".join((LINES[0], *houses[:1], "tick", *houses[1:])))

    def test_steps_that_are_not_possible(self):
        self.assert_error(BadScript, {"at": 3}, read_script, HEAD + "\nrise ann\nfly")
        self.assert_error(BadScript, {"at": 5}, read_script, HEAD + "\ntick\nrequest cleo 1 once k a\nrequest cleo 1 once k a\ntick")
        self.assert_error(BadScript, {"at": 4}, read_script, HEAD + "\ntick\nback 2 1")

    def test_wrong_arguments(self):
        for thing in NO_STRINGS:
            self.assert_error(BadScript, {"at": 0}, read_script, thing)
            self.assert_error(BadScript, {"at": 0}, opened, thing)
        for thing in (HEAD.split("\n"), (HEAD,), "x" * 1000, "\n" * 1000):
            self.assert_error(BadScript, {"at": 1 if type(thing) is str else 0}, read_script, thing)
        for thing in (*NO_STRINGS, SETTINGS[:6], list(SETTINGS)):
            self.assert_error(BadSettings, {"thing": thing}, script_text, thing, None)
            self.assert_error(BadSettings, {"thing": thing}, Bench, thing)
        for thing in NO_STRINGS:
            if type(thing) is not tuple:
                self.assert_error(BadStep, {"thing": thing}, script_text, SETTINGS, thing)
            self.assert_error(BadStep, {"thing": thing}, script_text, SETTINGS, (TICK, thing, None))


class PlainBench:
    """A bench that plays all its steps again for each world."""

    def __init__(self, settings):
        self.settings, self.done, self.back = settings, [], []

    def model(self):
        world = PlainWorld(self.settings)
        for step in self.done:
            world.do(step)
        return world


class Benches(Checks, unittest.TestCase):

    def assert_bench(self, bench, plain):
        self.assertEqual(bench.steps(), tuple(plain.done))
        self.assertEqual(bench.undone(), tuple(plain.back))
        self.assertIs(type(bench.steps()), tuple)
        self.assertIs(type(bench.undone()), tuple)
        self.assertEqual(bench.world(), plain.model().value())

    def test_new(self):
        bench = Bench(SETTINGS)
        self.assertEqual((bench.world(), bench.steps(), bench.undone(), bench.text()), (new_world(SETTINGS), (), (), HEAD))
        self.assertIs(bench.undo(), False)
        self.assertIs(bench.redo(), False)
        self.assertEqual((bench.world(), bench.steps(), bench.undone(), bench.text()), (new_world(SETTINGS), (), (), HEAD))

    def test_by_hand(self):
        bench = Bench(SETTINGS)
        self.assertIs(bench.do(TICK), None)
        self.assertIs(bench.do(("stop",)), None)
        self.assertIs(bench.do(("leave", "ann")), None)
        self.assertIs(bench.undo(), True)
        self.assertIs(bench.undo(), True)
        self.assertEqual((bench.steps(), bench.undone()), ((TICK,), (("leave", "ann"), ("stop",))))
        self.assertIs(bench.redo(), True)
        self.assertEqual((bench.steps(), bench.undone()), ((TICK, ("stop",)), (("leave", "ann"),)))
        # A step that is refused changes nothing; one that is done clears what was undone.
        self.assert_error(BadStep, {"thing": ("rise", "ann")}, bench.do, ("rise", "ann"))
        self.assertEqual((bench.steps(), bench.undone()), ((TICK, ("stop",)), (("leave", "ann"),)))
        self.assertIs(bench.do(TICK), None)
        self.assertEqual((bench.steps(), bench.undone()), ((TICK, ("stop",), TICK), ()))
        self.assertIs(bench.redo(), False)
        self.assertEqual(bench.text(), HEAD + "\ntick\nstop\ntick")
        self.assertEqual(bench.world(), world_after(SETTINGS, (TICK, ("stop",), TICK)))

    def test_rows(self):
        random = Random(2)
        for _ in range(40):
            settings = world_settings(random, random.choice((1, 2)))
            bench, plain, stage = Bench(settings), PlainBench(settings), Stage(random, random.choice(PROFILES))
            for _ in range(50):
                deed = random.choices(("do", "undo", "redo", "wrong"), (6, 3, 3, 1))[0]
                if deed == "do":
                    step = stage.step(plain.model())
                    self.assertIs(bench.do(step), None)
                    plain.done.append(step)
                    plain.back = []
                elif deed == "undo":
                    self.assertIs(bench.undo(), plain.done != [])
                    plain.back += [plain.done.pop()] if plain.done else []
                elif deed == "redo":
                    self.assertIs(bench.redo(), plain.back != [])
                    plain.done += [plain.back.pop()] if plain.back else []
                else:
                    step = random.choice((("fly",), None, ("break", 99), [TICK], ("rise", "nobody"), ("toward", True, 1)))
                    self.assert_error(BadStep, {"thing": step}, bench.do, step)
                self.assert_bench(bench, plain)
            self.assertEqual(bench.text(), script_text(settings, bench.steps()))
            again = opened(bench.text())
            self.assertEqual((again.world(), again.steps(), again.undone(), again.text()), (bench.world(), bench.steps(), (), bench.text()))

    def test_benches_are_apart(self):
        one, other = Bench(SETTINGS), Bench(SETTINGS)
        steps = one.steps()
        one.do(TICK)
        self.assertEqual((other.steps(), steps), ((), ()))
        one.undo()
        self.assertEqual(other.undone(), ())

    def test_limits(self):
        for settings, steps in drawn(3, 10):
            text = self.assert_quick(script_text, settings, steps)
            self.assert_quick(read_script, text)
            bench = self.assert_quick(opened, text)
            self.assert_quick(bench.undo)
            self.assert_quick(bench.redo)
            self.assert_quick(bench.do, TICK)
            self.assert_quick(bench.text)


if __name__ == "__main__":
    unittest.main()
