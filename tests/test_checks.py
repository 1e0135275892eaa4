"""[10.1] Judging a past to [10.4] Twins, and the interface of answergate/checks.py."""

import unittest
from collections import Counter
from random import Random

from answergate import checks
from answergate.checks import hearing, is_past, judge_past, past_holds, twins, twins_hold
from answergate.errors import BadPast, BadSettings, BadStep, NotUnknown
from tests.checks import Checks
from tests.models import framed
from tests.samples import NO_STRINGS, PARTS, spoiled
from tests.world_model import PROFILES, PlainWorld, Stage, is_body, is_number, is_word, world_settings

SETTINGS = ((("ann", 1),), "busy", (1, 2, 1, 4), 1, 2, 5, 3)
SLOW = ((("ann", 1),), "busy", (1, 9, 9, 20), 1, 30, 12, 9)
TICK = ("tick",)
# Of one request of each kind: accepted, begun, and its answers.
ONCE, AGAIN = ("accepted", "cleo", 1, True, "ab"), ("accepted", "cleo", 2, False, "ab")
BEGUN, OVER = ("begun", "cleo", 1, "ann", 1), ("begun", "cleo", 2, "bob", 3)
ANSWERS = (("done", "ba"), ("done", "ab"), ("busy",), ("begun",), ("not begun",), ("unknown",), ("none",))
FATES = ("begun", "not begun", "open", "")


def ask(number, once=True, body="hi", client="cleo", key="k"):
    return ("request", client, number, once, key, body)


def told(number, answer, fate="open", client="cleo"):
    return ("answered", client, number, answer, fate)


def is_plain_entry(thing):
    if type(thing) is not tuple or not thing or not all(type(thing[0]) is str for _ in "x"):
        return False
    word, *items = thing
    if word == "gone":
        return len(items) == 1 and is_word(items[0])
    if word not in ("accepted", "begun", "answered") or len(items) != 4 or not is_word(items[0]) or not is_number(items[1]):
        return False
    if word == "accepted":
        return type(items[2]) is bool and is_body(items[3])
    if word == "begun":
        return is_word(items[2]) and is_number(items[3], 1)
    answer = items[2]
    if type(items[3]) is not str or items[3] not in FATES or type(answer) is not tuple or not answer or type(answer[0]) is not str:
        return False
    if len(answer) == 2:
        return answer[0] == "done" and is_body(answer[1])
    return len(answer) == 1 and answer[0] in ("busy", "begun", "not begun", "unknown", "none")


def plain_certificate(past):
    """Each sentence of [10.1] is held against each entry and all entries before it."""
    for at, entry in enumerate(past):
        for word, is_kept in SENTENCES:
            if not is_kept(past[:at], entry):
                return ("broken", at, word)
    return ("kept", sum(entry[0] == "answered" for entry in past))


def about(before, entry, word):
    """The entries before of this kind about the same request."""
    return [other for other in before if other[0] == word and other[1:3] == entry[1:3]]


def answers_before(before, entry):
    return [other[3] for other in about(before, entry, "answered")]


def is_once(before, entry):
    return any(other[3] for other in about(before, entry, "accepted"))


def keeps_not_accepted(before, entry):
    if entry[0] == "begun" or entry[0] == "answered" and entry[3] != ("busy",):
        return len(about(before, entry, "accepted")) > 0
    return True


def keeps_twice_answered(before, entry):
    if entry[0] == "answered":
        return not answers_before(before, entry)
    return entry[0] != "accepted" or ("busy",) not in answers_before(before, entry)


def keeps_kind(before, entry):
    accepted = about(before, entry, "accepted")
    if entry[0] != "answered" or not accepted:
        return True
    if entry[3] == ("busy",):
        return False
    return entry[3][0] not in (("none",) if accepted[0][3] else ("begun", "not begun", "unknown"))


def keeps_reply(before, entry):
    if entry[0] != "answered" or entry[3][0] != "done":
        return True
    bodies = [other[4] for other in about(before, entry, "accepted")]
    return bodies != [] and entry[3][1] == "".join(reversed(bodies[0])) and about(before, entry, "begun") != []


def keeps_fate(before, entry):
    if entry[0] != "answered":
        return True
    answer, fate = entry[3][0], entry[4]
    return ((answer != "unknown" or fate == "open") and (answer != "not begun" or fate != "begun")
            and (answer != "begun" or fate != "not begun") and (answer == "busy") == (fate == ""))


SENTENCES = (
    ("twice accepted", lambda before, entry: entry[0] != "accepted" or not about(before, entry, "accepted")),
    ("not accepted", keeps_not_accepted),
    ("gone", lambda before, entry: entry[0] not in ("accepted", "answered") or ("gone", entry[1]) not in before),
    ("twice begun", lambda before, entry: entry[0] != "begun" or not is_once(before, entry) or not about(before, entry, "begun")),
    ("after no", lambda before, entry: entry[0] != "begun" or not {("not begun",), ("busy",)} & set(answers_before(before, entry))),
    ("twice answered", keeps_twice_answered),
    ("kind", keeps_kind),
    ("reply", keeps_reply),
    ("begun", lambda before, entry: entry[0] != "answered" or entry[3] != ("begun",) or about(before, entry, "begun")),
    ("not begun", lambda before, entry: entry[0] != "answered" or entry[3] != ("not begun",) or not about(before, entry, "begun")),
    ("fate", keeps_fate),
)


def some_entry(random, names):
    name = random.choice(names)
    once, body = {("cleo", 1): (True, "ab"), ("cleo", 2): (False, "ab"), ("dora", 1): (True, ""), ("dora", 2): (False, "xy")}[name]
    kind = random.choices(("accepted", "begun", "answered", "gone"), (3, 4, 5, 0.5))[0]
    answer = random.choice((("done", body[::-1]), ("done", "ab"), *ANSWERS[2:]))
    return {"accepted": ("accepted", *name, once, body), "begun": ("begun", *name, "ann", 1),
            "answered": ("answered", *name, answer, random.choice(FATES)), "gone": ("gone", name[0])}[kind]


def some_past(random):
    """A past of few requests that mostly keeps all sentences, up to its last entries, which may be any."""
    names = random.sample((("cleo", 1), ("cleo", 2), ("dora", 1), ("dora", 2)), random.choice((1, 1, 2, 4)))
    past = []
    for _ in range(random.randint(0, 30)):
        entry = some_entry(random, names)
        if plain_certificate((*past, entry))[0] == "kept":
            past.append(entry)
    past.extend([some_entry(random, names) for _ in range(random.randint(0, 2))])
    return tuple(past)


class Interface(Checks, unittest.TestCase):

    def test_names_and_parameters(self):
        self.assert_interface(checks, {
            "is_past": ["thing"], "judge_past": ["past"], "past_holds": ["past", "thing"], "hearing": ["settings", "steps"],
            "twins": ["settings", "steps"], "twins_hold": ["settings", "client", "number", "thing"],
        })

    def test_by_name(self):
        steps = (ask(1), TICK, ("back", 1, 10), TICK)
        self.assertIs(is_past(thing=(ONCE,)), True)
        self.assertEqual(judge_past(past=(ONCE,)), ("kept", 0))
        self.assertIs(past_holds(thing=("kept", 0), past=(ONCE,)), True)
        self.assertEqual(hearing(steps=(TICK,), settings=SETTINGS), (TICK,))
        pair = twins(steps=steps, settings=SETTINGS)
        self.assertIs(twins_hold(thing=pair, number=1, client="cleo", settings=SETTINGS), True)


class Pasts(Checks, unittest.TestCase):

    def test_forms(self):
        entries = (ONCE, AGAIN, BEGUN, OVER, ("gone", "cleo"), *[told(0, answer, fate) for answer in ANSWERS for fate in FATES],
                   ("accepted", "abcdefghij", 10 ** 9, False, "x" * 150), ("begun", "z", 0, "a", 10 ** 9), told(10 ** 9, ("done", "")))
        for entry in entries:
            self.assert_bool(True, is_past, (entry,))
        self.assert_bool(True, is_past, ())
        self.assert_bool(True, is_past, entries * 3)
        for entry in ("gone", (), ("gone",), ("gone", "Cleo"), ("gone", 1), ("went", "cleo"), ["gone", "cleo"], ONCE[:4], (*ONCE, 1), (None, "cleo"),
                      ("accepted", "cleo", 1, 1, "ab"), ("accepted", "cleo", True, True, "ab"), ("accepted", "cleo", 1, True, "\n"),
                      ("accepted", "cleo", -1, True, "ab"), ("accepted", "cleo", 10 ** 9 + 1, True, "ab"), ("accepted", "cleo", 1, True, "x" * 151),
                      ("begun", "cleo", 1, "ann", -1), ("begun", "cleo", 1, "ann", True), ("begun", "cleo", 1, "", 1), ("begun", "cleo", 1, "ann"),
                      told(1, ("done",)), told(1, ("done", 1)), told(1, ("done", "x" * 151)), told(1, ("busy", "")), told(1, "busy"), told(1, ()),
                      told(1, ("none",), None), told(1, ("none",), "Open"), told(1, ("none",), ("open",)), told(1, ("maybe",)), told(1, ["none"]),
                      told(1, (["none"],)), (["gone"], "cleo"), ({}, "cleo")):
            self.assert_bool(False, is_past, (entry,))
            self.assert_bool(False, is_past, (ONCE, entry, BEGUN))
            self.assert_error(BadPast, {"thing": (entry,)}, judge_past, (entry,))
        self.assert_bool(False, is_past, [ONCE])
        self.assert_bool(False, is_past, ONCE)

    def test_any_values(self):
        right = Counter()
        for past in ((ONCE, BEGUN, told(1, ("done", "ba"))), (("gone", "cleo"), told(1, ("unknown",), ""))):
            for thing in spoiled(past, PARTS + ANSWERS + FATES + ("accepted", "begun", "answered", "gone", "done", ONCE, BEGUN)):
                wanted = type(thing) is tuple and all(is_plain_entry(entry) for entry in thing)
                right[wanted] += 1
                self.assert_bool(wanted, is_past, thing)
                if wanted:
                    self.assert_result(plain_certificate(thing), judge_past, thing)
        self.assertGreater(right[True], 100)

    def test_bad_pasts(self):
        for thing in (*NO_STRINGS[:9], *NO_STRINGS[12:], [ONCE], ONCE, "past"):
            if thing != ():
                self.assert_error(BadPast, {"thing": thing}, judge_past, thing)
                self.assert_error(BadPast, {"thing": thing}, past_holds, thing, None)


class Judging(Checks, unittest.TestCase):

    def test_each_sentence(self):
        no, done, unknown, none = told(1, ("not begun",)), told(1, ("done", "ba")), told(1, ("unknown",)), told(2, ("none",))
        for wanted, past in (
                ("twice accepted", (ONCE, ONCE)),
                ("twice accepted", (ONCE, done[:3] + (("unknown",), "open"), ONCE)),
                ("not accepted", (BEGUN,)),
                ("not accepted", (AGAIN, BEGUN)),
                ("not accepted", (unknown,)),
                ("not accepted", (told(1, ("unknown",), ""),)),
                ("gone", (("gone", "cleo"), ONCE)),
                ("gone", (ONCE, ("gone", "cleo"), unknown)),
                ("gone", (("gone", "cleo"), told(1, ("busy",), ""))),
                ("twice begun", (ONCE, BEGUN, BEGUN)),
                ("after no", (ONCE, no, BEGUN)),
                ("twice answered", (ONCE, unknown, unknown)),
                ("twice answered", (AGAIN, none, none)),
                ("twice answered", (told(1, ("busy",), ""), ONCE)),
                ("twice answered", (told(1, ("busy",), ""), told(1, ("busy",), ""))),
                ("kind", (ONCE, told(1, ("busy",), ""))),
                ("kind", (ONCE, told(1, ("none",)))),
                ("kind", (AGAIN, told(2, ("begun",)))),
                ("kind", (AGAIN, told(2, ("not begun",)))),
                ("kind", (AGAIN, told(2, ("unknown",)))),
                ("reply", (ONCE, BEGUN, told(1, ("done", "ab")))),
                ("reply", (ONCE, done)),
                ("begun", (ONCE, told(1, ("begun",)))),
                ("not begun", (ONCE, BEGUN, no)),
                ("fate", (ONCE, told(1, ("unknown",), "begun"))),
                ("fate", (ONCE, told(1, ("unknown",), "not begun"))),
                ("fate", (ONCE, told(1, ("not begun",), "begun"))),
                ("fate", (ONCE, BEGUN, told(1, ("begun",), "not begun"))),
                ("fate", (told(1, ("busy",), "open"),)),
                ("fate", (ONCE, told(1, ("unknown",), ""))),
                ("fate", (AGAIN, told(2, ("none",), "")))):
            at = len(past) - 1
            self.assert_result(("broken", at, wanted), judge_past, past)
            # What comes behind it does not count, nor does what comes before and keeps all.
            more = (("accepted", "zoe", 1, True, ""), ("gone", "zoe"), told(9, ("busy",), "", "emil"))
            self.assert_result(("broken", at + 3, wanted), judge_past, more + past + (BEGUN, BEGUN, ("gone", "cleo")))
            self.assertEqual(plain_certificate(past), ("broken", at, wanted))

    def test_kept(self):
        for number, past in (
                (0, ()), (0, (ONCE, AGAIN)), (0, (ONCE, BEGUN, ("gone", "cleo"), AGAIN[:1] + ("dora",) + AGAIN[2:])), (0, (("gone", "cleo"),) * 3),
                (1, (ONCE, BEGUN, told(1, ("done", "ba"), "not begun"))), (2, (AGAIN, OVER, OVER, told(2, ("none",), "begun"), told(3, ("busy",), ""))),
                (1, (AGAIN, told(2, ("none",), "open"), OVER)), (1, (ONCE, told(1, ("not begun",), "open"))), (1, (ONCE, told(1, ("unknown",)), BEGUN)),
                (1, (ONCE, BEGUN, told(1, ("unknown",)))), (1, (ONCE, BEGUN, told(1, ("begun",), "open"), ("gone", "cleo"))),
                (0, (ONCE, ("gone", "cleo"), BEGUN)), (1, (AGAIN, OVER, told(2, ("done", "ba")), OVER)),
                (2, (ONCE, ONCE[:1] + ("dora",) + ONCE[2:], told(1, ("not begun",), "not begun"), told(1, ("unknown",), "open", "dora")))):
            self.assert_result(("kept", number), judge_past, past)
            self.assertEqual(plain_certificate(past), ("kept", number))

    def test_drawn_pasts(self):
        random, seen = Random(1), Counter()
        for _ in range(5000):
            past = some_past(random)
            wanted = plain_certificate(past)
            self.assertEqual(judge_past(past), wanted)
            seen[wanted[2] if wanted[0] == "broken" else "kept"] += 1
            self.assertIs(past_holds(past, wanted), True)
        for word, _ in SENTENCES:
            self.assertGreater(seen[word], 3, (word, seen))

    def test_two_sentences_at_once(self):
        """All pasts of a few entries of one request, in which the last entry may break several sentences."""
        entries = (ONCE, AGAIN[:2] + (1,) + AGAIN[3:], BEGUN, ("gone", "cleo"), *[told(1, answer, fate) for answer in ANSWERS for fate in FATES])
        heads = [()]
        for _ in range(3):
            heads += [head + (entry,) for head in heads for entry in (*entries[:4], told(1, ("not begun",)), told(1, ("busy",), ""))]
        seen = set()
        for head in set(heads):
            for entry in entries:
                past = head + (entry,)
                wanted = plain_certificate(past)
                if judge_past(past) != wanted:
                    self.fail((past, wanted))
                if wanted[0] == "broken" and wanted[1] == len(head):
                    broken = [word for word, is_kept in SENTENCES if not is_kept(head, entry)]
                    seen.update(zip(broken, broken[1:]))
        self.assertGreater(len(seen), 10, seen)

    def test_certificates(self):
        for past, right in (((ONCE, BEGUN, told(1, ("done", "ba"))), ("kept", 1)), ((ONCE, BEGUN, BEGUN), ("broken", 2, "twice begun")), ((), ("kept", 0)),
                            ((ONCE, ONCE), ("broken", 1, "twice accepted"))):
            self.assert_bool(True, past_holds, past, right)
            for thing in spoiled(right, PARTS + ("kept", "broken", "fate", "twice begun", "twice accepted", 0, True, False)):
                same = type(thing) is tuple and [(type(part), part) for part in thing] == [(type(part), part) for part in right]
                self.assert_bool(same, past_holds, past, thing)


class Hearing(Checks, unittest.TestCase):

    def test_by_hand(self):
        self.assert_result((), hearing, SLOW, ())
        start = (ask(1), *[TICK] * 9)
        heard = (ask(1), *[TICK] * 9)
        self.assert_result(heard, hearing, SLOW, start)
        # Pieces that complete no message, one, and several; and moves of nothing.
        self.assert_result(heard, hearing, SLOW, (*start, ("back", 1, 9)))
        hello = ("messages", 1, ("hello 1",))
        self.assert_result((*heard, hello), hearing, SLOW, (*start, ("back", 1, 9), ("back", 1, 1), ("back", 1, 5), ("toward", 1, 5)))
        steps = (*start, ("back", 1, 10), ("toward", 1, 99), ("begin", "ann", 1), ("answer", "ann", 1, 1), ("leave", "ann"))
        self.assert_result((*heard, hello, ("messages", 1, ("answer 1 ih", "away 1"))), hearing, SLOW, (*steps, ("back", 1, 99)))
        self.assert_result((*heard, hello, ("messages", 1, ("answer 1 ih",))), hearing, SLOW, (*steps, ("back", 1, 20)))
        self.assert_result((*heard, hello, ("messages", 1, ("answer 1 ih",)), ("messages", 1, ("away 1",))),
                           hearing, SLOW, (*steps, ("back", 1, 20), ("back", 1, 99)))
        # Links that break, or are refused; what the houses do is not heard.
        self.assert_result((*heard, hello, ("lost", 1), ("gone", "dora"), ("stop",), ("draining", "ann", False), ("restart",)), hearing, SLOW,
                           (*start, ("back", 1, 10), ("break", 1), ("fall", "ann"), ("rise", "ann"), ("gone", "dora"), ("stop",),
                            ("draining", "ann", False), ("restart",)))
        self.assert_result((TICK, ("refused", 1)), hearing, SETTINGS, (("fall", "ann"), TICK))
        self.assert_result((TICK, ("lost", 1), TICK, ("refused", 2)), hearing, SETTINGS, (TICK, ("fall", "ann"), TICK))

    def test_beside_the_model(self):
        random = Random(3)
        for _ in range(120):
            settings, model, stage = world_settings(random, random.choice((1, 2, 4))), None, Stage(random, random.choice(PROFILES))
            model, steps = PlainWorld(settings), []
            for _ in range(60):
                steps.append(stage.step(model))
                model.do(steps[-1])
            self.assertEqual(repr(hearing(settings, tuple(steps))), repr(tuple(model.hearing)))
            self.assertEqual(judge_past(tuple(model.past))[0], "kept")

    def test_wrong_arguments(self):
        for thing in (*NO_STRINGS, SETTINGS[:6], list(SETTINGS)):
            self.assert_error(BadSettings, {"thing": thing}, hearing, thing, None)
            self.assert_error(BadSettings, {"thing": thing}, twins, thing, None)
            self.assert_error(BadSettings, {"thing": thing}, twins_hold, thing, None, None, None)
        for thing in NO_STRINGS:
            if type(thing) is not tuple:
                self.assert_error(BadStep, {"thing": thing}, hearing, SETTINGS, thing)
                self.assert_error(BadStep, {"thing": thing}, twins, SETTINGS, thing)
            self.assert_error(BadStep, {"thing": thing}, hearing, SETTINGS, (TICK, thing, None))
            self.assert_error(BadStep, {"thing": thing}, twins, SETTINGS, (TICK, thing, None))


def is_plain_twins(settings, client, number, thing):
    """What [10.4] says that twins are, read with the model."""
    if type(client) is not str or type(number) is not int or type(thing) is not tuple or len(thing) != 2:
        return False
    worlds = []
    for steps in thing:
        world, last = PlainWorld(settings), []
        if type(steps) is not tuple:
            return False
        for step in steps:
            before = len(world.past)
            if not world.do(step):
                return False
            last = world.past[before:]
        if ("answered", client, number, ("unknown",)) not in [entry[:4] for entry in last]:
            return False
        worlds.append(world)
    if worlds[0].hearing != worlds[1].hearing:
        return False
    begun = [("begun", client, number) in [entry[:3] for entry in world.past] for world in worlds]
    return begun == [True, False]


class Twins(Checks, unittest.TestCase):
    START = (ask(1), *[TICK] * 9, ("back", 1, 10))

    def assert_twins(self, settings, steps, client, number):
        pair = self.assert_quick(twins, settings, steps)
        self.assertIs(is_plain_twins(settings, client, number, pair), True, (settings, steps, pair))
        self.assertIs(self.assert_quick(twins_hold, settings, client, number, pair), True)
        self.assertEqual(hearing(settings, pair[0]), hearing(settings, steps))
        self.assertEqual(hearing(settings, pair[1]), hearing(settings, steps))
        return pair

    def test_at_the_deadline(self):
        late = (TICK,) * 30
        settings = (SLOW[0], SLOW[1], (1, 9, 50, 50), *SLOW[3:])
        start = (*[TICK] * 50, ask(1), ("back", 1, 10))
        for middle in ((), (("toward", 1, 5),), (("toward", 1, 99),), (("toward", 1, 99), ("begin", "ann", 1)), (("toward", 1, 99), ("leave", "ann")),
                       (("leave", "ann"), ("toward", 1, 99)), (("toward", 1, 99), ("begin", "ann", 1), ("answer", "ann", 1, 1), ("back", 1, 14)),
                       (("break", 1),), (("toward", 1, 99), ("begin", "ann", 1), ("break", 1), ("answer", "ann", 1, 1)), (("fall", "ann"),),
                       (("toward", 1, 99), ("begin", "ann", 1), ("fall", "ann"), ("rise", "ann")), (("leave", "ann"), ("break", 1)), (("restart",),),
                       (("toward", 1, 99), ("begin", "ann", 1), ("leave", "ann"), ("back", 1, 5), ("break", 1), ("fall", "ann")),
                       (("stop",), ("draining", "ann", True), ("leave", "ann"), ("leave", "ann"), ("toward", 1, 99), ("leave", "ann"))):
            self.assert_twins(settings, (*start, *middle, *late), "cleo", 1)

    def test_given_up(self):
        start = (*self.START, ("toward", 1, 99))
        for begin in ((), (("begin", "ann", 1),)):
            # By a hello with another boot, and by forgot: the house falls between the hello and the past.
            new = (*start, *begin, ("fall", "ann"), ("rise", "ann"), *[TICK] * 9)
            self.assert_twins(SLOW, (*new, ("back", 2, 10)), "cleo", 1)
            # Another row of the same house is told about on the same link, in one piece.
            self.assert_twins(SLOW, (*new, ("back", 2, 3), ("back", 2, 99)), "cleo", 1)

    def test_several_links(self):
        # The house goes on to begin on link 1 after link 2 broke, too; a third link tells about both.
        settings = (SLOW[0], SLOW[1], (1, 9, 9, 9), 1, 60, 12, 9)
        start = (ask(1), ask(2), *[TICK] * 9, ("back", 1, 10), ("toward", 1, 99), ("break", 1), *[TICK] * 9, ("back", 2, 10), ask(3))
        for mine in ((), (("toward", 2, 99),), (("toward", 2, 10),)):
            for later in ((), (("begin", "ann", 1),), (("begin", "ann", 1), ("begin", "ann", 1))):
                if mine == (("toward", 2, 99),) and later:
                    continue
                steps = (*start, *mine, ("break", 2), *later, *[TICK] * 9, ("back", 3, 10), ("toward", 3, 12), ("back", 3, 99))
                world = PlainWorld(settings)
                for step in steps:
                    self.assertTrue(world.do(step), step)
                names = [request.number for request in world.proxy.requests]
                self.assertIn(3, names)
                # The request on link 2 waits until its time is over, as nothing is told about that link.
                while world.proxy.requests:
                    steps += (TICK,)
                    before = len(world.past)
                    world.do(TICK)
                    unknown = [entry[1:3] for entry in world.past[before:] if entry[3:4] == (("unknown",),)]
                    if unknown:
                        self.assert_twins(settings, steps, *unknown[0])

    def test_the_first_of_several(self):
        settings = (SLOW[0], SLOW[1], (1, 9, 9, 20), 1, 12, 12, 9)
        steps = (ask(7), ask(2), ask(5, False), *[TICK] * 9, ("back", 1, 10), ("toward", 1, 99), *[TICK] * 3)
        pair = twins(settings, steps)
        self.assertIs(twins_hold(settings, "cleo", 7, pair), True)
        self.assertIs(twins_hold(settings, "cleo", 2, pair), False)
        self.assertIs(twins_hold(settings, "cleo", 5, pair), False)

    def drawn(self, seed, many, profiles=PROFILES):
        """Settings and rows of steps whose last one answers a request by unknown."""
        random = Random(seed)
        for _ in range(many):
            settings = world_settings(random, random.choice((1, 1, 2, 4)))
            stage, model, steps = Stage(random, random.choice(profiles)), PlainWorld(settings), []
            for _ in range(60):
                steps.append(stage.step(model))
                before = len(model.past)
                model.do(steps[-1])
                names = [entry[1:3] for entry in model.past[before:] if entry[3:4] == (("unknown",),)]
                if names:
                    yield settings, tuple(steps), names, model

    def test_drawn(self):
        seen = Counter()
        for settings, steps, names, model in self.drawn(4, 500):
            self.assert_twins(settings, steps, *names[0])
            seen[steps[-1][0]] += 1
            words = [step[0] for step in steps]
            seen.update({word for word in ("fall", "leave") if word in words})
            seen["several links"] += len(model.placed) > 0 and len({place[0] for place in model.placed}) > 1
        for kind in ("tick", "back", "fall", "leave", "several links"):
            self.assertGreater(seen[kind], 30, seen)

    def test_links_that_are_asked_about(self):
        """One house, whose links break again and again while it still begins on the older ones."""
        settings = ((("ann", 1),), "busy", (1, 9, 2, 3), 2, 40, 12, 3)
        weights = {**PROFILES[5], "request": 3, "tick": 4, "break": 2, "leave": 0.1, "fall": 0.15, "rise": 9, "whole": 0.7, "stop": 0, "restart": 0.2,
                   "draining": 0.02, "begin": 2}
        random, count = Random(5), Counter()
        for _ in range(150):
            stage, model, steps = Stage(random, weights), PlainWorld(settings), []
            for _ in range(110):
                steps.append(stage.step(model))
                before = len(model.past)
                model.do(steps[-1])
                names = [entry[1:3] for entry in model.past[before:] if entry[3:4] == (("unknown",),)]
                if names:
                    self.assert_twins(settings, tuple(steps), *names[0])
                    count[steps[-1][0]] += 1
        self.assertGreater(min(count["tick"], count["back"]), 20, count)

    def test_not_unknown(self):
        self.assert_error(NotUnknown, {}, twins, SLOW, ())
        self.assert_error(NotUnknown, {}, twins, SLOW, self.START)
        queue = (ask(1), *[TICK] * 2)
        self.assert_error(NotUnknown, {}, twins, SETTINGS, queue)
        steps = (ask(1), TICK, ("back", 1, 10), TICK)
        twins(SETTINGS, steps)
        # Only the last step counts.
        self.assert_error(NotUnknown, {}, twins, SETTINGS, (*steps, TICK))
        self.assert_error(NotUnknown, {}, twins, SETTINGS, (*steps, ("toward", 1, 1)))

    def test_others_do_not_hold(self):
        for settings, steps, names, _ in self.drawn(6, 60):
            name = names[0]
            one, other = twins(settings, steps)
            for thing in ((other, one), (one, one), (other, other), (one, other, other), (one,), (), [one, other], (list(one), other), (one, None), None,
                          (one[:-1], other[:-1]), ((), ()), (one + (TICK,), other + (TICK,)), (one, other[:-1]), (one + (("fly",),), other)):
                self.assertIs(twins_hold(settings, *name, thing), False)
            self.assertIs(twins_hold(settings, "nobody", name[1], (one, other)), False)
            for client, number in ((name[0], True), (name[0], None), (name[0], str(name[1])), ([name[0]], name[1]), (None, None), (name[1], name[0])):
                self.assertIs(twins_hold(settings, client, number, (one, other)), False)

    def test_steps_replaced(self):
        random, seen = Random(7), Counter()
        for settings, steps, names, _ in self.drawn(8, 90):
            pair = twins(settings, steps)
            for _ in range(12):
                which = random.randrange(2)
                row = list(pair[which])
                at = random.randrange(len(row))
                change = random.choice(("leave out", "add", "replace", "exchange", "double"))
                other = random.choice((*row, *steps, ("back", 1, 1), ("leave", settings[0][0][0]), ("toward", 2, 3), None, ("stop",)))
                if change == "leave out":
                    del row[at]
                elif change == "add":
                    row.insert(at, other)
                elif change == "replace":
                    row[at] = other
                elif change == "exchange":
                    row[at - 1], row[at] = row[at], row[at - 1]
                else:
                    row.insert(at, row[at])
                thing = (tuple(row), pair[1]) if which == 0 else (pair[0], tuple(row))
                wanted = is_plain_twins(settings, *names[0], thing)
                seen[wanted] += 1
                self.assertIs(twins_hold(settings, *names[0], thing), wanted)
        self.assertGreater(min(seen[True], seen[False]), 20, seen)

    def test_any_values(self):
        steps = (ask(1), TICK, ("back", 1, 10), TICK)
        pair = twins(SETTINGS, steps)
        for thing in spoiled(pair, NO_STRINGS + (steps, TICK, ("back", 1, 3), 1, 10, "k", "hi", "cleo")):
            self.assertIs(twins_hold(SETTINGS, "cleo", 1, thing), is_plain_twins(SETTINGS, "cleo", 1, thing))
        for thing in NO_STRINGS:
            self.assert_bool(False, twins_hold, SETTINGS, "cleo", 1, thing)
            self.assert_bool(False, twins_hold, SETTINGS, thing, thing, pair)

    def test_partly_received_messages_count_as_not_received(self):
        steps = (ask(1), TICK, ("back", 1, 10), ("toward", 1, 99), ("begin", "ann", 1), ("answer", "ann", 1, 1), ("back", 1, 14), TICK)
        pair = self.assert_twins(SETTINGS, steps, "cleo", 1)
        self.assertNotIn(("back", 1, 14), pair[0])
        self.assertEqual([step for step in pair[0] if step[0] == "back"], [("back", 1, 10)])
        self.assertEqual(framed("answer 1 ih")[:14], "11:answer 1 ih")


if __name__ == "__main__":
    unittest.main()
