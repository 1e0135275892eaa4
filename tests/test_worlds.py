"""[9.1] Worlds to [9.3] The guarantee, and the interface of answergate/worlds.py."""

import unittest
from collections import Counter
from random import Random

from answergate import worlds
from answergate.checks import is_past, judge_past
from answergate.errors import BadSettings, BadStep, BadWorld
from answergate.houses import is_house
from answergate.links import is_link
from answergate.proxies import is_proxy, new_proxy, ticked
from answergate.worlds import is_world, new_world, possible_steps, stepped, world_after
from tests.checks import Checks
from tests.driving import Ledger
from tests.models import framed
from tests.samples import NO_STRINGS, PARTS, nudged, spoiled
from tests.world_model import PROFILES, WORDS, PlainWorld, Stage, world_settings

SETTINGS = ((("ann", 1),), "busy", (1, 2, 1, 4), 1, 9, 5, 3)
SLOW = ((("ann", 1),), "busy", (1, 9, 9, 20), 1, 30, 12, 9)
TWO = ((("ann", 1), ("bob", 2)), "turns", (1, 2, 9, 20), 1, 30, 5, 3)
TICK = ("tick",)
MORE = PARTS + tuple(WORDS) + ("cleo", "bob", "hello 1", "", "ook,", "k", True, 10 ** 9, ("ann", 1), (1, 1), ((1, 1), "cleo", 1), 9, 10)


def ask(number, once=True, body="hi", client="cleo", key="k"):
    return ("request", client, number, once, key, body)


def slow(*steps, settings=SLOW):
    """The world after nine ticks, with which links are opened, and these steps."""
    return world_after(settings, (TICK,) * 9 + steps)


def drawn(seed, many, profile=None, size=60):
    """Rows of steps: settings, and pairs of a step and the model before it, which goes on changing."""
    random = Random(seed)
    for _ in range(many):
        settings = world_settings(random, random.choice((1, 2, 4)))
        model, stage, steps = PlainWorld(settings), Stage(random, profile or random.choice(PROFILES)), []
        for _ in range(size):
            steps.append(stage.step(model))
            model.do(steps[-1])
        yield settings, tuple(steps), model


def is_tuple(thing, size):
    return type(thing) is tuple and len(thing) == size


def is_plain_world(thing):
    """What the interface says that is_world checks, sentence by sentence."""
    if not is_tuple(thing, 5) or not is_proxy(thing[0]):
        return False
    proxy, links, houses, placed, past = thing
    names, label = [name for name, _ in proxy[0][0]], proxy[2]
    if type(links) is not tuple or not all(is_link(link) and link[4] == "open" for link in links):
        return False
    if not is_tuple(houses, len(names)) or not all(is_house(house) and house[0] == name for house, name in zip(houses, names)):
        return False
    wanted = sorted((post[1], name) for post, name in zip(proxy[3], names) if post[1] is not None)
    if [(link[0], link[1]) for link in links] != wanted:
        return False
    rows = {house[0]: [row[0] for row in house[4]] for house in houses}
    if any(other >= label for labels in rows.values() for other in labels):
        return False
    for other, name in wanted:
        if not [house for house in houses if house[0] == name][0][2] or other not in rows[name]:
            return False
    return are_plain_places(proxy, placed, label) and is_past(past)


def are_plain_places(proxy, placed, label):
    if type(placed) is not tuple:
        return False
    for triple in placed:
        if not is_tuple(triple, 3) or not is_tuple(triple[0], 2):
            return False
        (other, number), client, own = triple
        if type(other) is not int or type(number) is not int or not 1 <= other < label or number < 1:
            return False
        if type(client) is not str or not 1 <= len(client) <= 10 or not set(client) <= set("abcdefghijklmnopqrstuvwxyz"):
            return False
        if type(own) is not int or not 0 <= own <= 10 ** 9:
            return False
    if any(one[0] >= other[0] for one, other in zip(placed, placed[1:])):
        return False
    return all((request[7], request[0], request[1]) in placed for request in proxy[5] if request[7])


class Interface(Checks, unittest.TestCase):

    def test_names_and_parameters(self):
        self.assert_interface(worlds, {
            "is_world": ["thing"], "new_world": ["settings"], "stepped": ["world", "step"], "world_after": ["settings", "steps"],
            "possible_steps": ["world"],
        })

    def test_by_name(self):
        world = new_world(settings=SETTINGS)
        self.assertIs(is_world(thing=world), True)
        self.assertEqual(stepped(step=TICK, world=world), world_after(steps=(TICK,), settings=SETTINGS))
        self.assertEqual(possible_steps(world=world), (("fall", "ann"), ("leave", "ann"), ("restart",), ("stop",), TICK))

    def test_new(self):
        self.assert_result((new_proxy(SETTINGS), (), (("ann", 1, True, False, ()),), (), ()), new_world, SETTINGS)
        self.assert_result((new_proxy(TWO), (), (("ann", 1, True, False, ()), ("bob", 1, True, False, ())), (), ()), new_world, TWO)
        self.assert_result(new_world(TWO), world_after, TWO, ())

    def test_wrong_arguments(self):
        world = new_world(SETTINGS)
        for thing in (*NO_STRINGS, list(SETTINGS), SETTINGS[:6]):
            self.assert_error(BadSettings, {"thing": thing}, new_world, thing)
            self.assert_error(BadSettings, {"thing": thing}, world_after, thing, None)
        for thing in (*NO_STRINGS, list(world), world[:4], (*world, ())):
            self.assert_error(BadWorld, {"thing": thing}, stepped, thing, None)
            self.assert_error(BadWorld, {"thing": thing}, possible_steps, thing)
        for thing in NO_STRINGS:
            self.assert_error(BadStep, {"thing": thing}, stepped, world, thing)
            if type(thing) is not tuple:
                self.assert_error(BadStep, {"thing": thing}, world_after, SETTINGS, thing)
        for thing in ([TICK], "tick", {TICK: 1}, TICK):
            wrong = "tick" if thing == TICK else thing
            self.assert_error(BadStep, {"thing": wrong}, world_after, SETTINGS, thing)
        self.assert_error(BadStep, {"thing": ("rise", "ann")}, world_after, SETTINGS, (TICK, ("fall", "ann"), ("rise", "ann"), ("rise", "ann"), None))


class ByHand(Checks, unittest.TestCase):

    def test_an_ordinary_request(self):
        world = new_world(SETTINGS)
        world = stepped(world, ask(1, body="ab"))
        self.assertEqual(world[1:], ((), (("ann", 1, True, False, ()),), (), (("accepted", "cleo", 1, True, "ab"),)))
        world = stepped(world, TICK)
        self.assertEqual(world[1], ((1, "ann", "", "7:hello 1,", "open"),))
        self.assertEqual(world[2], (("ann", 1, True, False, ((1, "", (), 0, (), "open"),)),))
        world = stepped(stepped(world, ("back", 1, 3)), ("back", 1, 10 ** 9))
        self.assertEqual(world[1], ((1, "ann", "8:ask 1 ab,", "", "open"),))
        self.assertEqual(world[3], (((1, 1), "cleo", 1),))
        world = stepped(stepped(world, ("toward", 1, 11)), ("begin", "ann", 1))
        self.assertEqual(world[2], (("ann", 1, True, False, ((1, "", ("ab",), 1, (), "open"),)),))
        world = stepped(world, ("answer", "ann", 1, 1))
        self.assertEqual(world[1], ((1, "ann", "", "11:answer 1 ba,", "open"),))
        world = stepped(world, ("back", 1, 15))
        self.assertEqual(world[4], (("accepted", "cleo", 1, True, "ab"), ("begun", "cleo", 1, "ann", 1),
                                    ("answered", "cleo", 1, ("done", "ba"), "open")))
        self.assertEqual(world[3], (((1, 1), "cleo", 1),))

    def test_moves_of_nothing(self):
        world = slow()
        self.assertEqual(world[1], ((1, "ann", "", "7:hello 1,", "open"),))
        self.assert_result(world, stepped, world, ("toward", 1, 1))
        self.assert_result(world, stepped, world, ("toward", 1, 10 ** 9))
        told = stepped(world, ("back", 1, 10))
        self.assert_result(told, stepped, told, ("back", 1, 1))
        for many in (0, -1, 10 ** 9 + 1, True, None, "1"):
            self.assert_error(BadStep, {"thing": ("toward", 1, many)}, stepped, world, ("toward", 1, many))
            self.assert_error(BadStep, {"thing": ("back", 1, many)}, stepped, world, ("back", 1, many))

    def test_a_house_refuses(self):
        for down, leaving in ((("fall", "ann"), False), (("leave", "ann"), True)):
            world = world_after(SETTINGS, (down, TICK))
            self.assertEqual(world[1], ())
            self.assertEqual(world[0], (SETTINGS, 1, 2, (((True, 1, 1, 2), None, False, False),), ((), ()), (), (), False))
            self.assertEqual(world[2], (("ann", 1, leaving, leaving, ()),))
            world = stepped(world, TICK)
            # The second bad look marks it down, and the waits grow.
            self.assertEqual(world[0][3], (((False, 0, 2, 4), None, False, False),))

    def test_several_refusals(self):
        settings = ((("ann", 1), ("bob", 2), ("cy", 1)), "turns", (1, 2, 1, 4), 1, 30, 5, 3)
        world = world_after(settings, (("fall", "ann"), ("leave", "cy"), TICK))
        self.assertEqual(world[1], ((2, "bob", "", "7:hello 1,", "open"),))
        self.assertEqual(world[0][2:4], (4, (((True, 1, 1, 2), None, False, False), ((True, 0, 1, 2), 2, True, False),
                                             ((True, 1, 1, 2), None, False, False))))
        self.assertEqual([label for label, _, _ in world[0][6]], [2])

    def broken(self, *steps):
        """A world with a request on link 1, after these steps."""
        return slow(ask(1), ("back", 1, 99), ("toward", 1, 99), ("begin", "ann", 1), *steps)

    def test_links_break(self):
        # By itself, by a fall of the house, by a restart, and by a look that was not answered in time.
        for steps, rows in (((("break", 1),), True), ((("fall", "ann"),), False), ((("restart",),), True), ((TICK,) * 18, True)):
            world = self.broken(*steps)
            self.assertEqual(world[1], ())
            self.assertEqual(world[2][0][4] != (), rows)
            self.assertEqual([(label, view[6]) for label, _, view in world[0][6]], [(1, "broken")])
            self.assertEqual(world[0][3][0][1], None)
            self.assert_error(BadStep, {"thing": ("break", 1)}, stepped, world, ("break", 1))
            self.assert_error(BadStep, {"thing": ("toward", 1, 1)}, stepped, world, ("toward", 1, 1))
            self.assert_error(BadStep, {"thing": ("back", 1, 1)}, stepped, world, ("back", 1, 1))
        # The answer on a broken link is lost.
        world = self.broken(("break", 1))
        answered = stepped(world, ("answer", "ann", 1, 1))
        self.assertEqual(answered[:2], world[:2])
        self.assertEqual(answered[2][0][4], ((1, "", ("hi",), 1, (1,), "open"),))

    def test_a_house_breaks_a_link(self):
        # No steps lead here: what is in flight is no message of the proxy.
        world = self.broken()
        for flight in ("ook,", framed("look", "well"), framed("ask 3 x"), framed("past 1 1", "look"), framed("look") + framed("nothing")):
            odd = (world[0], ((1, "ann", flight, "", "open"),), *world[2:])
            self.assertIs(is_world(odd), True)
            wanted = PlainWorld.of(odd)
            self.assertTrue(wanted.do(("toward", 1, 99)))
            after = stepped(odd, ("toward", 1, 99))
            self.assertEqual(after, wanted.value())
            self.assertEqual(after[1], ())
            self.assertEqual(after[2][0][4], ((1, "", ("hi",), 1, (), "closed"),))
            self.assertEqual(after[0][3], (((True, 1, 9, 18), None, False, False),))
            self.assertEqual([view[6] for _, _, view in after[0][6]], ["broken"])

    def test_a_refusal_after_an_offence(self):
        # The look at bob is due, and bob is leaving: the break of ann's link opens one to bob, which bob refuses.
        world = world_after(TWO, (("leave", "bob"), *[TICK] * 9, ("back", 1, 99)))
        proxy = world[0]
        due = (*proxy[:3], (proxy[3][0], ((True, 0, 9, 9), None, False, False)), *proxy[4:])
        odd = (due, ((1, "ann", framed("nothing"), "", "open"),), *world[2:])
        self.assertIs(is_world(odd), True)
        after = stepped(odd, ("toward", 1, 99))
        self.assertEqual(after[0][2:4], (4, (((True, 1, 9, 18), None, False, False), ((True, 1, 9, 18), None, False, False))))
        self.assertEqual(after[1], ())

    def test_past_entries_in_order(self):
        settings = (*SLOW[:5], 1, 9)
        world = slow(ask(1), ask(2), ("back", 1, 99), ("toward", 1, 99), ("begin", "ann", 1), ("gone", "cleo"), ask(3, client="dora"),
                     ("gone", "nobody"), settings=settings)
        self.assertEqual(world[4], (("accepted", "cleo", 1, True, "hi"), ("answered", "cleo", 2, ("busy",), ""), ("begun", "cleo", 1, "ann", 1),
                                    ("gone", "cleo"), ("accepted", "dora", 3, True, "hi"), ("gone", "nobody")))

    def test_fates_before_the_event(self):
        # The piece with the answer of number 2 tells that number 1 was begun; both count as one event.
        world = slow(ask(1), ask(2, False), ("back", 1, 99), ("toward", 1, 99), ("begin", "ann", 1), ("begin", "ann", 1), ("answer", "ann", 1, 2),
                     ("answer", "ann", 1, 1), ("back", 1, 99))
        self.assertEqual(world[4][-2:], (("answered", "cleo", 2, ("done", "ih"), "open"), ("answered", "cleo", 1, ("done", "ih"), "open")))
        world = slow(ask(1), ask(2, False), ("back", 1, 99), ("toward", 1, 99), ("begin", "ann", 1), ("begin", "ann", 1), ("answer", "ann", 1, 2),
                     ("back", 1, 99), ("break", 1))
        self.assertEqual(world[4][-1:], (("answered", "cleo", 1, ("begun",), "begun"),))
        world = world_after((*SLOW[:4], 1, *SLOW[5:]), (ask(1), ask(2, False), TICK))
        self.assertEqual(world[4][-2:], (("answered", "cleo", 1, ("not begun",), "not begun"), ("answered", "cleo", 2, ("none",), "not begun")))

    def test_boots(self):
        world = slow(("fall", "ann"), ("rise", "ann"), ask(1), *[TICK] * 9, ("back", 2, 99), ("toward", 2, 99), ("begin", "ann", 2))
        self.assertEqual(world[4][-1], ("begun", "cleo", 1, "ann", 2))
        self.assertEqual(world[0][6][0][2][1], 2)

    def test_begin_where_placed_tells_nothing(self):
        world = self.broken()
        house = ("ann", 1, True, False, ((1, "", ("hi", "ho"), 1, (), "open"),))
        odd = (*world[:2], (house,), *world[3:])
        self.assertIs(is_world(odd), True)
        self.assertNotIn(("begin", "ann", 1), possible_steps(odd))
        self.assert_error(BadStep, {"thing": ("begin", "ann", 1)}, stepped, odd, ("begin", "ann", 1))
        told = (*odd[:3], (((1, 1), "cleo", 1), ((1, 2), "dora", 7)), odd[4])
        self.assertIn(("begin", "ann", 1), possible_steps(told))
        self.assertEqual(stepped(told, ("begin", "ann", 1))[4][-1], ("begun", "dora", 7, "ann", 1))

    def test_placed_tells_the_latest(self):
        # No steps lead here: placed tells of a request that was not written yet.
        world = slow(ask(1), ("back", 1, 99))
        odd = (*world[:3], (((1, 1), "cleo", 1), ((1, 2), "zoe", 5)), world[4])
        self.assertIs(is_world(odd), True)
        self.assertEqual(stepped(odd, ask(2))[3], (((1, 1), "cleo", 1), ((1, 2), "cleo", 2)))

    def test_leaving_twice(self):
        world = self.broken(("leave", "ann"))
        self.assertEqual(world[1][0][3], framed("away 1"))
        self.assert_result(world, stepped, world, ("leave", "ann"))
        # What is written on a row goes to the link with its label, if it is one to this house.
        self.assertEqual(stepped(world, ("answer", "ann", 1, 1))[1][0][3], framed("away 1", "answer 1 ih"))
        world = world_after(TWO, (*[TICK] * 9,))
        rows = (world[2][0], ("bob", 1, True, False, ((1, "", ("x",), 1, (), "open"), *world[2][1][4])))
        odd = (*world[:2], rows, *world[3:])
        self.assertIs(is_world(odd), True)
        self.assertEqual(stepped(odd, ("answer", "bob", 1, 1))[1], world[1])
        self.assertEqual(stepped(odd, ("leave", "bob"))[1][1][3], framed("hello 1", "away 0"))
        self.assertEqual(stepped(odd, ("leave", "bob"))[1][0], world[1][0])


class Possible(Checks, unittest.TestCase):

    def test_requests(self):
        world = slow(ask(1), ("gone", "dora"), ("back", 1, 99), ask(2), ("request", "emil", 3, False, "k", ""))
        full = world_after((*SLOW[:5], 1, 9), (ask(1), ask(2)))
        for base, step in ((world, ask(1)), (world, ask(2)), (world, ask(9, client="dora")), (world, ask(3, client="emil")), (full, ask(2)),
                           (slow(ask(1), ("gone", "cleo")), ask(1)), (slow(ask(1), ("gone", "cleo")), ask(2))):
            self.assert_error(BadStep, {"thing": step}, stepped, base, step)
        self.assertEqual(stepped(world, ask(1, client="emil"))[4][-1], ("accepted", "emil", 1, True, "hi"))
        # What was answered, or stands only in placed or in past, is known, too.
        ended = slow(ask(1), ("back", 1, 99), ("toward", 1, 99), ("begin", "ann", 1), ("answer", "ann", 1, 1), ("back", 1, 99))
        self.assert_error(BadStep, {"thing": ask(1)}, stepped, ended, ask(1))
        only_placed = (*ended[:3], (((1, 1), "cleo", 1), ((1, 2), "zoe", 5)), ())
        only_past = (*ended[:3], (), (("begun", "zoe", 5, "ann", 1), ("answered", "zoe", 6, ("busy",), "")))
        for base in (only_placed, only_past):
            self.assert_error(BadStep, {"thing": ask(5, client="zoe")}, stepped, base, ask(5, client="zoe"))
        self.assert_error(BadStep, {"thing": ask(6, client="zoe")}, stepped, only_past, ask(6, client="zoe"))
        self.assertEqual(stepped(only_placed, ask(6, client="zoe"))[4][-1], ("accepted", "zoe", 6, True, "hi"))
        leaving = slow(("stop",))
        self.assertEqual(stepped(leaving, ask(1))[4], (("answered", "cleo", 1, ("busy",), ""),))

    def test_wrong_steps(self):
        seen = Counter()
        random = Random(41)
        for _, _, model in drawn(42, 14, size=30):
            world = model.value()
            steps = list(model.steps()) + [ask(77), ("gone", "cleo"), ("draining", model.proxy.names[0], True)]
            for step in random.sample(steps, min(4, len(steps))):
                for thing in spoiled(step, MORE):
                    wanted = PlainWorld.of(world)
                    possible = wanted.do(thing)
                    seen[possible] += 1
                    try:
                        after = stepped(world, thing)
                    except BadStep as error:
                        self.assertIs(error.thing, thing)
                        self.assertFalse(possible, thing)
                    else:
                        self.assertTrue(possible, thing)
                        self.assertEqual(after, wanted.value())
        self.assertGreater(min(seen[True], seen[False]), 300, seen)

    def test_wrong_house_steps(self):
        world = slow(ask(1), ("back", 1, 99), ("toward", 1, 99))
        for step in (("begin", "bob", 1), ("begin", "ann", 2), ("begin", "ann", True), ("begin", 1, "ann"), ("answer", "ann", 1, 1),
                     ("answer", "ann", 1, 0), ("answer", "ann", 2, 1), ("answer", "bob", 1, 1), ("leave", "bob"), ("fall", "bob"),
                     ("rise", "ann"), ("rise", "bob"), ("fall", 1),
                     ("rise", ["ann"]), ("leave", ("ann",)), ("break", 2), ("break", True), ("break", "1"), ("break", [1]), ("toward", True, 1),
                     ("toward", [1], 1), ("back", 2, 1), ("toward", 1), ("break",), ("tick", 1), (), ("begin", "ann"), ("fly", "ann"), ("lost", 1),
                     ("received", 1, ""), ("refused", 1), (["tick"],), (None,), ("draining", "bob", True), ("draining", "ann", 1), ("gone", "Ann"),
                     ("gone", None), ("request", "cleo", 2, True, "k"), ("restart", ()), ("stop", "now")):
            self.assert_error(BadStep, {"thing": step}, stepped, world, step)
        down = slow(ask(1), ("back", 1, 99), ("toward", 1, 99), ("begin", "ann", 1), ("fall", "ann"))
        for step in (("begin", "ann", 1), ("answer", "ann", 1, 1), ("leave", "ann"), ("fall", "ann")):
            self.assert_error(BadStep, {"thing": step}, stepped, down, step)
        closed = slow(ask(1), ("back", 1, 99), ("toward", 1, 99), ("begin", "ann", 1), ("break", 1), *[TICK] * 9, ("back", 2, 99), ("toward", 2, 99))
        self.assertEqual(closed[2][0][4], ((1, "", ("hi",), 1, (), "closed"), (2, "", (), 0, (), "open")))
        self.assert_error(BadStep, {"thing": ("answer", "ann", 1, 1)}, stepped, closed, ("answer", "ann", 1, 1))
        # Gone of any word at any time, also twice.
        self.assertEqual(stepped(stepped(world, ("gone", "cleo")), ("gone", "cleo"))[4][-2:], (("gone", "cleo"),) * 2)

    def test_possible_steps(self):
        for settings, steps, _ in drawn(43, 25):
            model, world = PlainWorld(settings), new_world(settings)
            for at, step in enumerate(steps):
                if at % 6 == 0:
                    self.assertEqual(possible_steps(world), model.steps())
                    self.assertEqual(list(possible_steps(world)), sorted(set(possible_steps(world))))
                if at % 20 == 0:
                    for other in possible_steps(world):
                        self.assertIs(is_world(stepped(world, other)), True)
                model.do(step)
                world = stepped(world, step)
        self.assert_result((("back", 1, 1), ("back", 1, 10), ("break", 1), ("fall", "ann"), ("leave", "ann"), ("restart",), ("stop",), TICK),
                           possible_steps, slow())
        world = slow(ask(1), ("back", 1, 99), ("toward", 1, 10))
        self.assert_result((("break", 1), ("fall", "ann"), ("leave", "ann"), ("restart",), ("stop",), TICK, ("toward", 1, 1)),
                           possible_steps, world)
        self.assert_result((("restart",), ("rise", "ann"), ("stop",), TICK), possible_steps, slow(("fall", "ann")))


class Rows(Checks, unittest.TestCase):
    """Long rows of drawn steps beside the model, and what [9.3] promises behind each step."""

    def run_rows(self, seed, many, profile):
        random, seen = Random(seed), Counter()
        for _ in range(many):
            settings = world_settings(random, random.choice((1, 2, 4)))
            ledger = Ledger(self, settings)
            model, stage, world, steps = PlainWorld(settings, ledger.note), Stage(random, profile), new_world(settings), []
            promises = Promises(self, settings)
            for _ in range(60):
                step, told = stage.step(model), len(model.past)
                steps.append(step)
                self.assertTrue(model.do(step), step)
                world = stepped(world, step)
                self.assertEqual(repr(world), repr(model.value()), step)
                self.assertIs(is_world(world), True)
                promises.note(step, world, model.past[told:])
                seen.update([step[0]] + [entry[3][0] for entry in model.past[told:] if entry[0] == "answered"])
            self.assertEqual(world_after(settings, tuple(steps)), world)
            self.assertEqual(judge_past(world[4])[0], "kept")
        return seen

    def test_rows(self):
        seen = Counter()
        for at, profile in enumerate(PROFILES):
            seen.update(self.run_rows(50 + at, 70, profile))
        for word in (*WORDS, "done", "unknown", "begun", "not begun", "none", "busy"):
            self.assertGreater(seen[word], 20, (word, seen))


class Promises:
    """The sentences of [9.3], read off the past alone."""

    def __init__(self, test, settings):
        self.test, self.patience, self.clock = test, settings[4], 0
        self.accepted, self.begun, self.answers, self.gone = {}, Counter(), {}, set()

    def note(self, step, world, entries):
        test = self.test
        self.clock += step == ("tick",)
        for word, client, *more in entries:
            if word == "gone":
                self.gone.add(client)
                continue
            name = (client, more[0])
            if word == "accepted":
                test.assertNotIn(name, self.accepted)
                self.accepted[name] = (more[1], more[2], self.clock)
            elif word == "begun":
                self.begun[name] += 1
                test.assertNotIn(self.answers.get(name), (("not begun",), ("busy",)))
                test.assertFalse(self.accepted[name][0] and self.begun[name] > 1)
            else:
                test.assertNotIn(name, self.answers)
                self.answers[name] = more[1]
                self.note_answer(name, *more[1:])
        for name, (_, _, born) in self.accepted.items():
            if name[0] not in self.gone and self.clock >= born + self.patience:
                test.assertIn(name, self.answers)
        test.assertEqual(world[0][1], self.clock)

    def note_answer(self, name, answer, fate):
        test = self.test
        test.assertEqual(fate == "", answer == ("busy",))
        test.assertEqual(name in self.accepted, answer != ("busy",))
        if answer[0] == "done":
            test.assertEqual(answer[1], "".join(reversed(self.accepted[name][1])))
        if answer[0] in ("done", "begun"):
            test.assertGreater(self.begun[name], 0)
        if answer[0] in ("not begun", "busy"):
            test.assertEqual(self.begun[name], 0)
        if answer == ("unknown",):
            test.assertEqual(fate, "open")


class Forms(Checks, unittest.TestCase):

    def samples(self):
        for _, _, model in drawn(60, 2, PROFILES[1], 30):
            yield model.value()
        for _, _, model in drawn(61, 1, PROFILES[2], 30):
            yield model.value()
        yield slow(ask(1), ("back", 1, 99), ("toward", 1, 99), ("begin", "ann", 1), ("break", 1), *[TICK] * 9, ("back", 2, 99))

    def test_one_part_otherwise(self):
        right = 0
        for world in self.samples():
            self.assertIs(is_plain_world(world), True)
            for at in range(1, 5):
                for thing in spoiled(world[at], MORE):
                    odd = world[:at] + (thing,) + world[at + 1:]
                    wanted = is_plain_world(odd)
                    right += wanted
                    if is_world(odd) is not wanted:
                        self.fail((wanted, odd))
            for thing in spoiled(world, (None, (), world[0], world[1], world[2], world[3], world[4], new_proxy(SLOW), True)):
                self.assertIs(is_world(thing), is_plain_world(thing))
            for thing in spoiled(world[0], (None, 0, 1, 2, 3, True, (), (1, 1), (2, 1), "ann")):
                odd = (thing, *world[1:])
                self.assertIs(is_world(odd), is_plain_world(odd))
        self.assertGreater(right, 500)

    def test_each_clause(self):
        world = slow(ask(1), ("back", 1, 99), ("toward", 1, 99), ("begin", "ann", 1))
        proxy, links, houses, placed, past = world
        row = (1, "", ("hi",), 1, (), "open")
        self.assert_bool(True, is_world, world)

        def house(*rows, up=True, leaving=False, name="ann"):
            return ((name, 1, up, leaving, rows),)
        for wanted, odd in (
                # The links are those of the proxy's houses, and all open.
                (False, (proxy, (), houses, placed, past)),
                (False, (proxy, ((2, *links[0][1:]),), houses, placed, past)),
                (False, (proxy, ((1, "bob", "", "", "open"),), houses, placed, past)),
                (False, (proxy, ((1, "ann", "", "", "broken"),), houses, placed, past)),
                (False, (proxy, links + ((2, "ann", "", "", "open"),), houses, placed, past)),
                (False, (proxy, links + links, houses, placed, past)),
                (True, (proxy, ((1, "ann", "ook,", "1:a,", "open"),), houses, placed, past)),
                # The house of each is up and has a row with its label.
                (False, (proxy, links, house(), placed, past)),
                (False, (proxy, links, house(up=False), placed, past)),
                (False, (proxy, links, house((0, *row[1:])), placed, past)),
                (True, (proxy, links, house((1, "", (), 0, (), "closed")), placed, past)),
                (True, (proxy, links, house((1, "", (), 0, (), "away"), leaving=True), placed, past)),
                (False, (proxy, links, house(row, name="bob"), placed, past)),
                (False, (proxy, links, houses + houses, placed, past)),
                (False, (proxy, links, (), placed, past)),
                # The rows of houses have labels below the proxy's label.
                (True, (proxy, links, house((0, *row[1:]), row), placed, past)),
                (False, (proxy, links, house(row, (2, *row[1:])), placed, past)),
                # Placed has distinct places, and those of the proxy.
                (False, (proxy, links, houses, (), past)),
                (False, (proxy, links, houses, (((1, 1), "dora", 1),), past)),
                (False, (proxy, links, houses, (((1, 1), "cleo", 2),), past)),
                (False, (proxy, links, houses, (((1, 2), "cleo", 1),), past)),
                (True, (proxy, links, houses, placed + (((1, 2), "cleo", 1),), past)),
                (False, (proxy, links, houses, placed + (((1, 1), "dora", 1),), past)),
                (False, (proxy, links, houses, placed + placed, past)),
                (False, (proxy, links, houses, (((1, 2), "cleo", 1),) + placed, past)),
                (False, (proxy, links, houses, (((1, 0), "cleo", 1),) + placed, past)),
                (False, (proxy, links, houses, (((0, 1), "cleo", 1),) + placed, past)),
                (False, (proxy, links, houses, placed + (((2, 1), "cleo", 1),), past)),
                (False, (proxy, links, houses, (((1, True), "cleo", 1),), past)),
                (False, (proxy, links, houses, (((1, 1), "cleo", True),), past)),
                # The past is one, whatever it tells.
                (True, (proxy, links, houses, placed, ())),
                (True, (proxy, links, houses, placed, past * 3 + (("begun", "zoe", 9, "tom", 77), ("answered", "x", 0, ("none",), "begun")))),
                (False, (proxy, links, houses, placed, past + (("begun", "zoe", 9, "tom"),))),
                (False, (proxy, links, houses, placed, list(past)))):
            self.assertIs(is_plain_world(odd), wanted, odd)
            self.assert_bool(wanted, is_world, odd)

    def test_steps_of_odd_worlds(self):
        """Worlds to which no steps lead go on as the document says, too."""
        flights = ("", "ook,4:look,", framed("look", "past 0 1", "ask 2 x"), framed("past 1 1"), framed("ask 7 x"),
                   framed("hello 1", "well"), "1:x,1", framed("past 0 7", "past 0 1"),
                   framed("upto 0 1", "well", "forgot 1", "answer 1 x"), framed("hello 3", "nothing", "well"))
        random = Random(62)
        count = 0
        for _, _, model in drawn(63, 60, size=25):
            world = model.value()
            links = tuple((label, name, random.choice(flights), random.choice(flights), state) for label, name, _, _, state in world[1])
            odd = (world[0], links, *world[2:])
            if not is_world(odd):
                continue
            for label, *_ in links:
                for step in (("toward", label, 99), ("back", label, 99), ("toward", label, 8), ("back", label, 5)):
                    wanted = PlainWorld.of(odd)
                    self.assertTrue(wanted.do(step))
                    self.assertEqual(stepped(odd, step), wanted.value(), (odd, step))
                    count += 1
        self.assertGreater(count, 60)

    def test_drawn_odd_worlds(self):
        """Worlds with some parts replaced, to which mostly no steps lead."""
        random, odd = Random(64), 0
        for _, _, model in drawn(65, 120, size=40):
            world = model.value()
            for _ in range(20):
                other = nudged(random, world)
                if is_world(other) and other != world:
                    odd, world = odd + 1, other
            self.assertEqual(possible_steps(world), PlainWorld.of(world).steps())
            for step in possible_steps(world):
                wanted = PlainWorld.of(world)
                self.assertTrue(wanted.do(step))
                self.assertEqual(repr(stepped(world, step)), repr(wanted.value()), (world, step))
        self.assertGreater(odd, 100)

    def test_due_looks_of_odd_proxies(self):
        world = new_world(TWO)
        proxy = ticked(ticked(world[0])[0])[0]
        self.assertEqual(stepped((proxy, *world[1:]), TICK)[0], ticked(proxy)[0])


class Limits(Checks, unittest.TestCase):

    def test_long_rows(self):
        for settings, steps, model in drawn(70, 12):
            world = self.assert_quick(world_after, settings, steps)
            self.assertEqual(world, model.value())
            self.assert_quick(possible_steps, world)
            self.assert_quick(is_world, world)
            self.assert_quick(stepped, world, TICK)

    def test_sixty_rows(self):
        settings = ((("ann", 97), ("bob", 89), ("cy", 100), ("dee", 83)), "turns", (9, 99, 1, 1), 9, 99, 99, 40)
        steps = tuple(step for at in range(30) for step in (TICK, ("restart",)))
        world = self.assert_quick(world_after, settings, steps)
        self.assertEqual([len(house[4]) for house in world[2]], [30] * 4)
        rows = [tuple((label, "", ("x" * 150,) * 40, 40, tuple(range(1, 41)), "open") for label in range(at, at + 58)) for at in range(1, 5)]
        houses = tuple((*house[:4], row) for house, row in zip(world[2], rows))
        odd = (*world[:2], houses, *world[3:])
        self.assertIs(self.assert_quick(is_world, odd), True)
        self.assert_quick(stepped, odd, TICK)
        self.assert_quick(possible_steps, odd)

    def test_twelve_requests_at_once(self):
        settings = ((("ann", 97), ("bob", 89), ("cy", 100), ("dee", 83)), "turns", (1, 9, 9, 20), 9, 99, 99, 40)
        steps = (*[ask(number, body="x" * 150) for number in range(12)], *[TICK] * 9, *[("back", label, 99) for label in range(1, 5)],
                 *[("toward", label, 10 ** 4) for label in range(1, 5)])
        world = self.assert_quick(world_after, settings, steps)
        self.assertEqual(len(world[3]), 12)


if __name__ == "__main__":
    unittest.main()
