"""[7.1] Settings to [7.8], [8.1] to [8.3], and the interface of answergate/proxies.py."""

import unittest
from collections import Counter
from random import Random

from answergate import proxies
from answergate.errors import (BadBody, BadBool, BadLabel, BadName, BadNumber, BadPiece, BadProxy, BadSettings, BadWord, Known,
                               NoRequest)
from answergate.frames import is_rest
from answergate.knowledge import is_view
from answergate.marks import is_health_rule, is_mark
from answergate.messages import is_body
from answergate.picks import counts_after, is_pool
from answergate.proxies import (fate_of, gone, is_drained, is_finished, is_proxy, is_settings, lost, new_proxy, received, refused,
                                requested, restarted, set_draining, stopped, ticked)
from tests.checks import Checks
from tests.driving import CLIENTS, Driver, Ledger, done, some_settings
from tests.models import framed
from tests.proxy_model import PlainProxy
from tests.samples import NO_NUMBERS, NO_STRINGS, NO_WORDS, PARTS, WORDS, nudged, spoiled

RULE = (1, 2, 1, 4)
SETTINGS = ((("ann", 1),), "busy", RULE, 1, 9, 5, 3)
TWO = ((("ann", 1), ("bob", 2)), "turns", RULE, 1, 9, 5, 3)
NO_BOOLS = tuple(thing for thing in NO_STRINGS if type(thing) is not bool) + ("", "True")
NO_BODIES = (*NO_STRINGS, "x" * 151, "\n", "a\n", "\xe9", "\x7f", "~" * 1000)
NO_LABELS = (*NO_STRINGS[:4], *NO_STRINGS[5:], "1", "", "ann", 2, 3)


def is_int(thing, low, high=None):
    return type(thing) is int and thing >= low and (high is None or thing <= high)


def is_word(thing):
    return type(thing) is str and 0 < len(thing) < 11 and set(thing) <= set("abcdefghijklmnopqrstuvwxyz")


def is_tuple(thing, size):
    return type(thing) is tuple and len(thing) == size


def is_plain_settings(thing):
    if not is_tuple(thing, 7):
        return False
    pool, way, rule, tries, patience, room, window = thing
    return (is_pool(pool) and type(way) is str and way in ("turns", "busy", "key") and is_health_rule(rule) and is_int(tries, 0, 9)
            and is_int(patience, 1, 99) and is_int(room, 1, 99) and is_int(window, 1, 40))


def is_plain_proxy(thing):
    """What the interface says that is_proxy checks, sentence by sentence."""
    if not is_tuple(thing, 8) or not is_plain_settings(thing[0]):
        return False
    settings, clock, label, houses, turn, requests, views, leaving = thing
    pool, rule = settings[0], settings[2]
    if not is_int(clock, 0) or not is_int(label, 1) or type(leaving) is not bool or not is_tuple(houses, len(pool)):
        return False
    for house in houses:
        if not is_tuple(house, 4) or not is_mark(rule, house[0]) or [type(part) for part in house[2:]] != [bool, bool]:
            return False
    if not is_plain_turn(pool, turn) or type(requests) is not tuple or type(views) is not tuple:
        return False
    for request in requests:
        if not is_tuple(request, 8):
            return False
        client, number, once, key, body, born, tries, place = request
        if not is_word(client) or not is_int(number, 0, 10 ** 9) or type(once) is not bool or not is_word(key) or not is_body(body):
            return False
        if not is_int(born, 0, clock) or not is_int(tries, 0, settings[3]):
            return False
        if place is not None and not (is_tuple(place, 2) and type(place[0]) is int and type(place[1]) is int):
            return False
    if len({(request[0], request[1]) for request in requests}) < len(requests):
        return False
    for view in views:
        if not is_tuple(view, 3) or not is_int(view[0], 1, label - 1) or not is_rest(view[1]) or not is_view(view[2]):
            return False
    labels = [view[0] for view in views]
    if any(one >= other for one, other in zip(labels, labels[1:])):
        return False
    return is_plain_together(pool, houses, requests, {view[0]: view for view in views})


def is_plain_turn(pool, turn):
    if not is_tuple(turn, 2) or type(turn[0]) is not tuple or type(turn[1]) is not tuple:
        return False
    lot, counts = turn
    if not all(is_int(at, 0, len(pool) - 1) for at in lot) or any(one >= other for one, other in zip(lot, lot[1:])):
        return False
    if not all(is_int(count, 0) for count in counts) or len(lot) != len(counts):
        return False
    return not lot or counts_after(tuple(pool[at] for at in lot), sum(counts)) == counts


def is_plain_together(pool, houses, requests, views):
    places = [request[7] for request in requests if request[7]]
    if len(set(places)) < len(places):
        return False
    for request in requests:
        if request[7]:
            label, number = request[7]
            if label not in views:
                return False
            _, _, asked, answered, _, _, _ = views[label][2]
            if not 1 <= number <= len(asked) or asked[number - 1] != request[4] or number in answered:
                return False
    open_labels = set()
    for (name, _), (_, link, _, _) in zip(pool, houses):
        if link is not None:
            if type(link) is not int or link not in views or views[link][2][6] != "open" or views[link][2][0] != name:
                return False
            open_labels.add(link)
    for label, rest, view in views.values():
        if label not in open_labels:
            if view[6] != "broken" or view[0] not in dict(pool) or rest != "" or label not in [place[0] for place in places]:
                return False
    return True


def drawn(seed, many, weights=(), most=4, settings=None):
    """Rows of drawn events: for each one the settings, the model before it, and (event, proxy before, pair after)."""
    random = Random(seed)
    for _ in range(many):
        chosen = settings or some_settings(random, most)
        driver, model, proxy = Driver(random, chosen, weights), PlainProxy(chosen), new_proxy(chosen)
        rows = []
        for _ in range(60):
            event = driver.event(model)
            model.event(*event)
            pair = done(proxy, event)
            rows.append((event, proxy, pair))
            proxy = pair[0]
        yield chosen, rows


def after(proxy, *events):
    """The proxy after some events, and the outputs of the last one."""
    outputs = ()
    for event in events:
        proxy, outputs = done(proxy, event)
    return proxy, outputs


def ask(number, once=True, body="hi", client="cleo", key="k"):
    return ("request", client, number, once, key, body)


def heard(label, *texts):
    return ("received", label, framed(*texts))


TICK = ("tick",)
# A proxy with one house, whose link 1 is open and has one request that may not be repeated.
ONE = after(new_proxy(SETTINGS), ask(1), TICK, heard(1, "hello 1"))[0]
# The same after the link broke, and a new one, 2, was opened.
OLD = after(ONE, ("lost", 1), TICK)[0]


class Interface(Checks, unittest.TestCase):

    def test_names_and_parameters(self):
        self.assert_interface(proxies, {
            "is_settings": ["thing"], "is_proxy": ["thing"], "new_proxy": ["settings"],
            "requested": ["proxy", "client", "number", "once", "key", "body"], "ticked": ["proxy"], "gone": ["proxy", "client"],
            "refused": ["proxy", "label"], "received": ["proxy", "label", "piece"], "lost": ["proxy", "label"],
            "set_draining": ["proxy", "name", "is_draining"], "stopped": ["proxy"], "restarted": ["proxy"],
            "is_finished": ["proxy"], "is_drained": ["proxy", "name"], "fate_of": ["proxy", "client", "number"],
        })

    def test_by_name(self):
        proxy = new_proxy(settings=SETTINGS)
        self.assertIs(is_settings(thing=SETTINGS), True)
        self.assertIs(is_proxy(thing=proxy), True)
        self.assertEqual(requested(body="hi", key="k", once=True, number=1, client="cleo", proxy=proxy), done(proxy, ask(1)))
        self.assertEqual(ticked(proxy=proxy), done(proxy, TICK))
        opening = ticked(proxy)[0]
        self.assertEqual(refused(label=1, proxy=opening), refused(opening, 1))
        self.assertEqual(received(piece="7:", label=1, proxy=opening), received(opening, 1, "7:"))
        self.assertEqual(lost(label=1, proxy=opening), lost(opening, 1))
        self.assertEqual(gone(client="cleo", proxy=ONE), gone(ONE, "cleo"))
        self.assertEqual(set_draining(is_draining=True, name="ann", proxy=ONE), set_draining(ONE, "ann", True))
        self.assertEqual(stopped(proxy=ONE), stopped(ONE))
        self.assertEqual(restarted(proxy=ONE), restarted(ONE))
        self.assertIs(is_finished(proxy=ONE), False)
        self.assertIs(is_drained(name="ann", proxy=ONE), False)
        self.assertEqual(fate_of(number=1, client="cleo", proxy=ONE), "open")

    def test_nothing_changes(self):
        for proxy in (new_proxy(TWO), ONE, OLD):
            for event in (ask(9), TICK, ("gone", "cleo"), ("draining", "ann", True), ("stop",), ("restart",)):
                before = repr(proxy)
                self.assertEqual(repr(done(proxy, event)), repr(done(proxy, event)))
                self.assertEqual(repr(proxy), before)


class Settings(Checks, unittest.TestCase):

    def test_bounds(self):
        pool = (("ann", 1),)
        for way in ("turns", "busy", "key"):
            for numbers in ((0, 1, 1, 1), (9, 99, 99, 40), (0, 99, 1, 40), (9, 1, 99, 1)):
                self.assert_bool(True, is_settings, (pool, way, RULE, *numbers))
        for at, (low, high) in enumerate(((0, 9), (1, 99), (1, 99), (1, 40))):
            for number in (low - 1, high + 1, True, False, None, "1", -10 ** 39, 10 ** 39, (1,)):
                numbers = (1, 1, 1, 1)[:at] + (number,) + (1, 1, 1, 1)[at + 1:]
                self.assert_bool(False, is_settings, (pool, "busy", RULE, *numbers))

    def test_any_values(self):
        for settings in (SETTINGS, TWO):
            for thing in spoiled(settings, PARTS + ("turns", "busy", "key", "Busy")):
                self.assertIs(is_settings(thing), is_plain_settings(thing))

    def test_new(self):
        house = ((True, 0, 1, 1), None, False, False)
        self.assert_result((SETTINGS, 0, 1, (house,), ((), ()), (), (), False), new_proxy, SETTINGS)
        self.assert_result((TWO, 0, 1, (house, house), ((), ()), (), (), False), new_proxy, TWO)
        pool = tuple((word, 100) for word in ("a", "b", "c", "d", "e", "f", "g", "h"))
        self.assertIs(is_proxy(new_proxy((pool, "key", (99, 99, 99, 99), 9, 99, 99, 40))), True)

    def test_bad_settings(self):
        for thing in (*NO_STRINGS, list(SETTINGS), SETTINGS[:6], ((), *SETTINGS[1:]), (*SETTINGS[:6], True), (*SETTINGS[:6], 41)):
            self.assert_error(BadSettings, {"thing": thing}, new_proxy, thing)


class Proxies(Checks, unittest.TestCase):
    """is_proxy, and what is done with proxies for which nothing else is asked."""

    def samples(self):
        busy = {"received": 30, "request": 12, "lost": 4, "odd": 0, "stop": 0}
        for _, rows in drawn(20, 12, busy, most=2):
            proxy = max((pair[0] for _, _, pair in rows), key=lambda proxy: (min(len(proxy[6]), 3), min(len(proxy[5]), 3)))
            yield proxy
        yield from (ONE, OLD, new_proxy(TWO))

    def test_one_part_otherwise(self):
        parts = PARTS + ((1, 1), (1, 2), (2, 1), (1, True), ((0,), (1,)), ((), ()), ((0,), (0,)), ((0, 1), (0, 1)), (None, 1),
                         (True, 0, 1, 1), (False, 0, 4, 9), 6, 9, "cleo", "bob", "2:a")
        right = 0
        for proxy in self.samples():
            self.assertIs(is_plain_proxy(proxy), True)
            for thing in spoiled(proxy, parts):
                wanted = is_plain_proxy(thing)
                right += wanted
                if is_proxy(thing) is not wanted:
                    self.fail((wanted, thing))
        self.assertGreater(right, 1000)

    def test_two_parts_otherwise(self):
        random = Random(21)
        right = 0
        for proxy in self.samples():
            pieces = list(self.pieces(proxy))
            for _ in range(1500):
                thing = self.replaced(random, self.replaced(random, proxy, pieces), pieces)
                wanted = is_plain_proxy(thing)
                right += wanted
                if is_proxy(thing) is not wanted:
                    self.fail((wanted, thing))
        self.assertGreater(right, 300)

    def pieces(self, thing):
        yield thing
        if type(thing) is tuple:
            for part in thing:
                yield from self.pieces(part)

    def replaced(self, random, thing, pieces):
        """The value with one part replaced by another part of it."""
        if type(thing) is not tuple or not thing or random.random() < 0.1:
            return random.choice(pieces)
        at = random.randrange(len(thing))
        return thing[:at] + (self.replaced(random, thing[at], pieces),) + thing[at + 1:]

    def odd_proxies(self):
        """Proxies to which no events lead."""
        mark, up = (True, 0, 1, 1), (True, 1, 1, 5)
        first, second = ("cleo", 1, True, "k", "a", 3, 1, (1, 1)), ("dora", 1, False, "k", "b", 1, 0, (1, 2))
        view = ("ann", 2, ("a", "b"), (), None, None, "open")
        old = view[:6] + ("broken",)

        def one(house, requests, views, settings=SETTINGS, clock=5):
            return (settings, clock, 9, (house,), ((), ()), requests, views, False)
        yield one((mark, 1, False, False), (first, second), ((1, "", view),))
        # A view without a boot, a request that is not begun, a repeatable one on a broken view, and their order.
        yield one((up, 1, True, False), (second, first), ((1, "3:a", ("ann", None, ("a", "b"), (), None, None, "open")),))
        yield one((up, 1, True, True), (first, second), ((1, "", ("ann", 2, ("a", "b"), (), 1, None, "open")),))
        yield one((up, None, True, False), (first, second), ((1, "", old),))
        yield one((mark, 7, False, False), (first, second), ((1, "", old), (7, "", ("ann", 2, (), (), None, None, "open"))))
        yield one((mark, 7, False, True), (first, second), ((1, "", old), (7, "7:h", ("ann", None, (), (), None, None, "open"))))
        yield one((mark, 7, False, True), (first, second), ((1, "", old[:1] + (None,) + old[2:]), (7, "", ("ann", 2, (), (), 0, 0, "open"))))
        yield one((mark, 1, False, False), (second,), ((1, "", ("ann", 2, ("a", "b"), (1,), None, 2, "open")),))
        yield one((mark, 1, False, False), (first, second), ((1, "", view),), settings=(*SETTINGS[:5], 1, 1))
        yield one(((False, 0, 2, 10 ** 39), 1, False, False), (first,), ((1, "", view),), clock=10 ** 39)
        # More than forty requests on a link, and two broken views of one house.
        bodies = ("a", "b") * 25
        yield one((mark, 1, False, False), (first, second), ((1, "", ("ann", 2, bodies, (40,), None, None, "open")),))
        yield one((mark, 3, True, False), (first[:7] + ((1, 1),), second[:7] + ((2, 2),)),
                  ((1, "", old), (2, "", old[:1] + (3,) + old[2:]), (3, "", ("ann", None, (), (), None, None, "open"))))
        yield (TWO, 0, 2, ((mark, None, True, True), ((False, 0, 2, 2), 1, False, True)), ((0, 1), (1, 2)), (),
               ((1, "200:", ("bob", 0, (), (), None, None, "open")),), True)

    def test_odd_proxies(self):
        pieces = ("", "7:hello 2,", "7:hello 1,", framed("answer 1 x"), framed("answer 2 x"), framed("away 1"), framed("away 0"),
                  framed("upto 1 1"), framed("upto 1 2"), framed("upto 2 0"), framed("forgot 1"), framed("forgot 2"), framed("well"), "x", "1",
                  framed("hello 2", "upto 1 0"), framed("hello 2", "forgot 1"), framed("hello 2", "upto 1 2", "upto 1 2"),
                  framed("hello 2", "upto 2 1", "forgot 2", "well"), framed("hello 3", "upto 1 2", "answer 1 a"))
        for proxy in self.odd_proxies():
            self.assertIs(is_plain_proxy(proxy), True)
            self.assertIs(is_proxy(proxy), True)
            links = [house[1] for house in proxy[3] if house[1] is not None]
            opening = [label for label, _, view in proxy[6] if label in links and view[1] is None]
            events = [ask(7), ask(7, False), TICK, ("gone", "cleo"), ("gone", "dora"), ("draining", "ann", True), ("stop",), ("restart",),
                      ("draining", "ann", False), *[("lost", label) for label in links], *[("refused", label) for label in opening],
                      *[("received", label, piece) for label in links for piece in pieces]]
            for event in events:
                model = PlainProxy.of(proxy)
                outputs = model.event(*event)
                self.assertEqual(repr(done(proxy, event)), repr((model.value(), outputs)), (proxy, event))
            for request in proxy[5]:
                self.assertEqual(fate_of(proxy, *request[:2]), PlainProxy.of(proxy).fate(
                    [other for other in PlainProxy.of(proxy).requests if other.value() == request][0]))

    def test_drawn_odd_proxies(self):
        """Proxies with some parts replaced, to which mostly no events lead, at each kind of event."""
        random, odd = Random(22), 0
        for _, rows in drawn(23, 40, {"received": 25, "request": 12, "lost": 4, "odd": 0, "stop": 0}):
            for _, proxy, _ in rows[::4]:
                for _ in range(8):
                    other = nudged(random, proxy)
                    if is_proxy(other) and other != proxy:
                        odd, proxy = odd + 1, other
                model = PlainProxy.of(proxy)
                for event in self.drawn_events(random, model):
                    model = PlainProxy.of(proxy)
                    outputs = model.event(*event)
                    self.assertEqual(repr(done(proxy, event)), repr((model.value(), outputs)), (proxy, event))
        self.assertGreater(odd, 200)

    def drawn_events(self, random, model):
        """Each kind of event once, and several messages on each link."""
        yield from (TICK, ("restart",), ("stop",), ("gone", "cleo"), ("draining", model.names[0], True), ask(77, client="zoe"))
        for label in [label for label in model.link.values() if label is not None]:
            yield ("lost", label)
            if model.views[label].boot is None:
                yield ("refused", label)
            texts = ["hello 1", "hello 2", "well", "answer 1 x", "answer 2 y", "away 0", "away 1", "away 2", "look"]
            texts += [f"{word} {old}{more}" for old in model.views for word, more in (("upto", " 0"), ("upto", " 1"), ("upto", " 2"), ("forgot", ""))]
            for _ in range(3):
                stream = framed(*random.choices(texts, k=random.randint(1, 4)))
                yield ("received", label, random.choice((stream, stream[:-3])))

    def test_each_sentence(self):
        mark = (True, 0, 1, 1)
        request = ("cleo", 1, True, "k", "a", 3, 1, (1, 1))
        view = ("ann", 2, ("a", "b"), (), None, None, "open")
        old = view[:6] + ("broken",)

        def one(houses=((mark, 1, False, False),), requests=(request,), views=((1, "", view),), turn=((), ()), label=2, clock=3, settings=SETTINGS):
            return (settings, clock, label, houses, turn, requests, views, False)
        self.assert_bool(True, is_proxy, one())
        self.assert_bool(True, is_proxy, one(label=3))
        self.assert_bool(True, is_proxy, one(turn=((0,), (10 ** 8,))))
        # A request stands on a number of a link of its own, with its body, and has no answer there.
        for other in (("dora", 1, True, "k", "a", 3, 1, (1, 1)), ("cleo", 1, True, "k", "a", 3, 1, None), ("cleo", 1, True, "k", "b", 3, 1, (1, 2))):
            self.assert_bool(False, is_proxy, one(requests=(request, other)))
        for number, body in ((1, "b"), (2, "a"), (0, "a"), (3, "a"), (-1, "b"), (-2, "a")):
            self.assert_bool(False, is_proxy, one(requests=(request[:4] + (body, 3, 1, (1, number)),)))
        self.assert_bool(False, is_proxy, one(views=((1, "", ("ann", 2, ("a", "b"), (1,), None, None, "open")),)))
        self.assert_bool(False, is_proxy, one(requests=(request[:7] + ((2, 1),),)))
        # The links of the houses have views that are open, of these houses; other views are broken, and not for nothing.
        self.assert_bool(False, is_proxy, one(views=()))
        self.assert_bool(False, is_proxy, one(views=((1, "", old),)))
        self.assert_bool(False, is_proxy, one(views=((1, "", ("bob", *view[1:])),)))
        self.assert_bool(False, is_proxy, one(houses=((mark, None, False, False),)))
        self.assert_bool(True, is_proxy, one(houses=((mark, None, False, False),), views=((1, "", old),)))
        self.assert_bool(False, is_proxy, one(houses=((mark, None, False, False),), views=((1, "", ("bob", *old[1:])),)))
        self.assert_bool(False, is_proxy, one(houses=((mark, None, False, False),), views=((1, "2", old),)))
        self.assert_bool(False, is_proxy, one(houses=((mark, None, False, False),), views=((1, "", old),), requests=()))
        self.assert_bool(True, is_proxy, one(requests=()))
        self.assert_bool(False, is_proxy, one(label=1))
        self.assert_bool(False, is_proxy, one(views=((0, "", view),), houses=((mark, 0, False, False),), requests=()))
        self.assert_bool(False, is_proxy, one(houses=((mark, True, False, False),)))
        self.assert_bool(False, is_proxy, one(clock=2))
        self.assert_bool(False, is_proxy, one(requests=(request[:6] + (2, (1, 1)),)))
        self.assert_bool(False, is_proxy, one(turn=((0,), (True,))))
        self.assert_bool(False, is_proxy, one(turn=((0,), ())))
        self.assert_bool(False, is_proxy, one(turn=((), (0,))))
        self.assert_bool(False, is_proxy, one(turn=((1,), (0,))))
        both = ((mark, 1, False, False), (mark, None, False, False))
        for counts, wanted in (((0, 0), True), ((0, 1), True), ((1, 0), False), ((1, 2), True), ((2, 1), False), ((100, 201), True),
                               ((101, 200), False), ((0, 2), False), ((1, 1), True), ((10 ** 8, 2 * 10 ** 8), True)):
            self.assert_bool(wanted, is_proxy, one(houses=both, settings=TWO, turn=((0, 1), counts)))


class Refusals(Checks, unittest.TestCase):

    def test_bad_proxies(self):
        for thing in (*NO_STRINGS, list(ONE), ONE[:7], (*ONE[:7], 1), (SETTINGS, *ONE[:7])):
            wanted = (BadProxy, {"thing": thing})
            self.assert_error(*wanted, requested, thing, 1, -1, 1, 1, 1)
            self.assert_error(*wanted, ticked, thing)
            self.assert_error(*wanted, gone, thing, 1)
            self.assert_error(*wanted, refused, thing, "x")
            self.assert_error(*wanted, received, thing, "x", 1)
            self.assert_error(*wanted, lost, thing, "x")
            self.assert_error(*wanted, set_draining, thing, 1, 1)
            self.assert_error(*wanted, stopped, thing)
            self.assert_error(*wanted, restarted, thing)
            self.assert_error(*wanted, is_finished, thing)
            self.assert_error(*wanted, is_drained, thing, 1)
            self.assert_error(*wanted, fate_of, thing, 1, 1)

    def test_requests(self):
        for thing in NO_WORDS:
            self.assert_error(BadName, {"thing": thing}, requested, ONE, thing, -1, 1, 1, 1)
            self.assert_error(BadWord, {"thing": thing}, requested, ONE, "cleo", 1, True, thing, 1)
        for thing in NO_NUMBERS:
            self.assert_error(BadNumber, {"thing": thing}, requested, ONE, "cleo", thing, 1, 1, 1)
        for thing in NO_BOOLS:
            self.assert_error(BadBool, {"thing": thing}, requested, ONE, "cleo", 1, thing, 1, 1)
        for thing in NO_BODIES:
            self.assert_error(BadBody, {"thing": thing}, requested, ONE, "cleo", 1, True, "k", thing)
        for proxy in (ONE, stopped(ONE)[0], (ONE[0][:5] + (1, 3), *ONE[1:])):
            self.assert_error(Known, {"client": "cleo", "number": 1}, requested, proxy, "cleo", 1, False, "key", "")
        for number in (0, 1, 10 ** 9):
            for client in WORDS:
                for body in ("", "x" * 150, "~ "):
                    self.assertEqual(requested(new_proxy(SETTINGS), client, number, False, client, body)[0][5],
                                     ((client, number, False, client, body, 0, 1, None),))

    def test_labels(self):
        opening = ticked(new_proxy(SETTINGS))[0]
        for thing in NO_LABELS:
            self.assert_error(BadLabel, {"thing": thing}, refused, opening, thing)
            self.assert_error(BadLabel, {"thing": thing}, received, opening, thing, 1)
            self.assert_error(BadLabel, {"thing": thing}, lost, opening, thing)
        # A link that is open already is not refused; one that is broken, and kept, is not received from.
        self.assert_error(BadLabel, {"thing": 1}, refused, ONE, 1)
        for function, more in ((refused, ()), (received, (1,)), (lost, ())):
            self.assert_error(BadLabel, {"thing": 1}, function, OLD, 1, *more)
            self.assert_error(BadLabel, {"thing": None}, function, new_proxy(SETTINGS), None, *more)
            self.assert_error(BadLabel, {"thing": 0}, function, OLD, 0, *more)
        for thing in NO_STRINGS:
            self.assert_error(BadPiece, {"thing": thing}, received, opening, 1, thing)

    def test_names(self):
        for thing in (*NO_WORDS, "bob", "an"):
            self.assert_error(BadName, {"thing": thing}, set_draining, ONE, thing, 1)
            self.assert_error(BadName, {"thing": thing}, is_drained, ONE, thing)
        for thing in NO_WORDS:
            self.assert_error(BadName, {"thing": thing}, gone, ONE, thing)
        for thing in NO_BOOLS:
            self.assert_error(BadBool, {"thing": thing}, set_draining, ONE, "ann", thing)
        for client, number in (("cleo", 2), ("dora", 1), ("cleo", True), (1, "cleo"), (None, None), (["cleo"], 1), ("cleo", "1"), ("", 0)):
            self.assert_error(NoRequest, {"client": client, "number": number}, fate_of, ONE, client, number)
        for thing in NO_STRINGS:
            self.assert_error(NoRequest, {"client": thing, "number": thing}, fate_of, ONE, thing, thing)


class Events(Checks, unittest.TestCase):
    """Each event, worked out by hand."""

    def assert_event(self, proxy, event, outputs, **parts):
        """The outputs of an event, and parts of the proxy after it."""
        new, told = done(proxy, event)
        self.assertEqual(told, outputs)
        self.assertEqual(done(proxy, event), (new, told))
        names = ("settings", "clock", "label", "houses", "turn", "requests", "views", "leaving")
        for name, value in parts.items():
            self.assertEqual(new[names.index(name)], value, name)
        return new

    def test_an_ordinary_request(self):
        proxy = self.assert_event(new_proxy(SETTINGS), ask(1), (), requests=(("cleo", 1, True, "k", "hi", 0, 1, None),), views=())
        proxy = self.assert_event(proxy, TICK, (("open", 1, "ann"),), clock=1, label=2, houses=(((True, 0, 1, 2), 1, True, False),),
                                  views=((1, "", ("ann", None, (), (), None, None, "open")),))
        proxy = self.assert_event(proxy, ("received", 1, "7:hel"), (), views=((1, "7:hel", ("ann", None, (), (), None, None, "open")),))
        proxy = self.assert_event(proxy, ("received", 1, "lo 4,2"), (("write", 1, ("ask", 1, "hi")),),
                                  houses=(((True, 0, 1, 2), 1, False, False),), views=((1, "2", ("ann", 4, ("hi",), (), None, None, "open")),),
                                  requests=(("cleo", 1, True, "k", "hi", 0, 1, (1, 1)),))
        proxy = self.assert_event(proxy, TICK, (("write", 1, ("look",)),), houses=(((True, 0, 1, 3), 1, True, False),))
        proxy = self.assert_event(proxy, ("received", 1, "1:" + "answer 1 ".ljust(21, "x") + ","), (("answer", "cleo", 1, ("done", "x" * 12)),),
                                  houses=(((True, 0, 1, 3), 1, False, False),), requests=(),
                                  views=((1, "", ("ann", 4, ("hi",), (1,), None, None, "open")),))
        self.assert_event(proxy, ("received", 1, "4:well,"), (), views=proxy[6])

    def test_request(self):
        full = after(new_proxy((*SETTINGS[:5], 2, 3)), ask(1), ask(2, client="dora"))[0]
        self.assert_event(full, ask(3), (("answer", "cleo", 3, ("busy",)),), requests=full[5])
        self.assert_event(full, ask(3, False), (("answer", "cleo", 3, ("busy",)),), requests=full[5])
        self.assert_event(stopped(new_proxy(SETTINGS))[0], ask(3), (("answer", "cleo", 3, ("busy",)),), requests=())
        self.assert_event(ONE, ask(2, False, "x", "dora", "key"), (("write", 1, ("ask", 2, "x")),),
                          requests=ONE[5] + (("dora", 2, False, "key", "x", 1, 1, (1, 2)),))

    def test_deadlines(self):
        proxy = after(new_proxy((*SETTINGS[:4], 3, 9, 2)), ask(1), ask(2, False), TICK, heard(1, "hello 1"), ask(3), ask(4, False))[0]
        self.assertEqual([request[7] for request in proxy[5]], [(1, 1), (1, 2), None, None])
        proxy, outputs = after(proxy, TICK, ("received", 1, "4:well,"))
        self.assertEqual(outputs, ())
        proxy = self.assert_event(proxy, TICK, (("answer", "cleo", 1, ("unknown",)), ("answer", "cleo", 2, ("none",)), ("write", 1, ("look",)),
                                                ("write", 1, ("ask", 3, "hi")), ("write", 1, ("ask", 4, "hi"))), clock=3)
        proxy = self.assert_event(proxy, heard(1, "answer 4 x", "answer 1 x"), (("answer", "cleo", 4, ("done", "x")),))
        # Number 3 is begun now, as number 4 was answered, which does not need to be repeated.
        self.assertEqual(fate_of(proxy, "cleo", 3), "begun")
        self.assert_event(proxy, TICK, (("answer", "cleo", 3, ("begun",)), ("write", 1, ("look",))))
        queue = after(new_proxy((*SETTINGS[:4], 1, 9, 2)), ask(1), ask(2, False))[0]
        self.assert_event(queue, TICK, (("answer", "cleo", 1, ("not begun",)), ("answer", "cleo", 2, ("none",)), ("open", 1, "ann")), requests=())

    def test_looks(self):
        settings = ((("ann", 1),), "busy", (2, 1, 2, 5), 1, 99, 5, 3)
        proxy = after(new_proxy(settings), TICK)[0]
        proxy = self.assert_event(proxy, TICK, (("open", 1, "ann"),), houses=(((True, 0, 2, 4), 1, True, False),))
        proxy = self.assert_event(proxy, TICK, ())
        # No hello for two ticks: the look is bad, and the mark is down.
        proxy = self.assert_event(proxy, TICK, (("break", 1),), houses=(((False, 0, 4, 8), None, False, False),), views=())
        proxy = after(proxy, ask(1), TICK, TICK, TICK)[0]
        proxy = self.assert_event(proxy, TICK, (("open", 2, "ann"),), clock=8, houses=(((False, 0, 4, 12), 2, True, False),))
        proxy = self.assert_event(proxy, heard(2, "hello 1"), (), houses=(((False, 1, 2, 10), 2, False, False),))
        # The second good look marks it up, and the request is placed.
        proxy = self.assert_event(proxy, heard(2, "well"), (("write", 2, ("ask", 1, "hi")),), houses=(((True, 0, 2, 10), 2, False, False),))
        proxy = after(proxy, TICK)[0]
        proxy = self.assert_event(proxy, TICK, (("write", 2, ("look",)),), houses=(((True, 0, 2, 12), 2, True, False),))
        proxy = after(proxy, TICK)[0]
        self.assert_event(proxy, TICK, (("break", 2),), houses=(((False, 0, 4, 16), None, False, False),),
                          views=((2, "", ("ann", 1, ("hi",), (), None, None, "broken")),))

    def test_refused(self):
        proxy = after(new_proxy(SETTINGS), ask(1), TICK, ("received", 1, "7:he"))[0]
        proxy = self.assert_event(proxy, ("refused", 1), (), views=(), houses=(((True, 1, 1, 2), None, False, False),))
        self.assert_event(proxy, TICK, (("open", 2, "ann"),), houses=(((True, 1, 1, 3), 2, True, False),))

    def placed(self, tries=1):
        """Five requests on link 1: repeatable or not; the second is answered, so the first is begun."""
        proxy = after(new_proxy((*SETTINGS[:3], tries, 9, 9, 9)), ask(1), ask(2), ask(3), ask(4, False), TICK, heard(1, "hello 1"))[0]
        return after(proxy, heard(1, "answer 2 x"), ask(5, False))[0]

    def test_lost(self):
        for event, first in ((("lost", 1), ()), (("restart",), (("break", 1),)), (heard(1, "well", "look", "well"), (("break", 1),)),
                             (("received", 1, "5"), None), (("received", 1, "4:well;4:well,"), (("break", 1),))):
            if first is None:
                continue
            proxy = self.assert_event(self.placed(), event, (*first, ("answer", "cleo", 1, ("begun",))), requests=(
                ("cleo", 3, True, "k", "hi", 0, 1, (1, 3)), ("cleo", 4, False, "k", "hi", 0, 0, None), ("cleo", 5, False, "k", "hi", 1, 0, None)),
                views=((1, "", ("ann", 1, ("hi",) * 5, (2,), None, None, "broken")),))
            self.assertEqual(proxy[3][0][1], None)
            self.assert_event(self.placed(0), event, (*first, ("answer", "cleo", 1, ("begun",)), ("answer", "cleo", 4, ("none",)),
                                                      ("answer", "cleo", 5, ("none",))), requests=(("cleo", 3, True, "k", "hi", 0, 0, (1, 3)),))

    def test_lost_after_away(self):
        # What is not begun keeps its tries.
        proxy = after(self.placed(), heard(1, "away 4"))[0]
        self.assertEqual([request[6:] for request in proxy[5]], [(1, (1, 1)), (1, (1, 3)), (1, (1, 4)), (1, None)])
        self.assert_event(proxy, ("lost", 1), (("answer", "cleo", 1, ("begun",)), ("answer", "cleo", 3, ("begun",))), views=(), requests=(
            ("cleo", 4, False, "k", "hi", 0, 0, None), ("cleo", 5, False, "k", "hi", 1, 1, None)))

    def test_away(self):
        proxy = self.assert_event(self.placed(), heard(1, "away 2"), (), requests=(
            ("cleo", 1, True, "k", "hi", 0, 1, (1, 1)), *[("cleo", n, n == 3, "k", "hi", int(n == 5), 1, None) for n in (3, 4, 5)]))
        # When nothing is placed on it any more, the link is closed; a look is not due yet.
        proxy = self.assert_event(proxy, heard(1, "answer 1 y"), (("answer", "cleo", 1, ("done", "y")), ("break", 1)), views=(),
                                  houses=(((True, 0, 1, 2), None, False, False),))
        self.assert_event(proxy, TICK, (("open", 2, "ann"),))
        due = after(self.placed(), TICK, heard(1, "away 2"))[0]
        # The look that was under way ended with the link, and a new one is not due: an answer is a good look.
        self.assert_event(due, heard(1, "answer 1 y"), (("answer", "cleo", 1, ("done", "y")), ("break", 1)))
        gone_away = after(due, ("gone", "cleo"))
        self.assertEqual(gone_away[1], (("break", 1),))

    def test_reopened_at_once(self):
        # The look is due when the link is closed.
        settings = ((("ann", 1),), "busy", (1, 2, 1, 4), 1, 9, 5, 3)
        mark, view = (True, 0, 1, 5), ("ann", 1, ("hi",), (1,), None, None, "open")
        proxy = (settings, 5, 2, ((mark, 1, True, False),), ((), ()), (), ((1, "", view),), False)
        proxy = self.assert_event(proxy, heard(1, "away 1"), (("break", 1), ("open", 2, "ann")), label=3,
                                  houses=(((True, 0, 1, 6), 2, True, False),), views=((2, "", ("ann", None, (), (), None, None, "open")),))

    def test_hello_with_the_same_boot(self):
        self.assertEqual(OLD[6][0], (1, "", ("ann", 1, ("hi",), (), None, None, "broken")))
        proxy = self.assert_event(OLD, heard(2, "hello 1"), (("write", 2, ("past", 1, 1)),), requests=OLD[5])
        self.assert_event(proxy, heard(2, "upto 1 1"), (("answer", "cleo", 1, ("begun",)),), requests=(), views=proxy[6][1:])
        # Surely not begun: placed again, with the tries that it had.
        again = self.assert_event(proxy, heard(2, "upto 1 0"), (("write", 2, ("ask", 1, "hi")),), requests=(ONE[5][0][:7] + ((2, 1),),))
        self.assertEqual([label for label, _, _ in again[6]], [2])
        self.assert_event(proxy, heard(2, "forgot 1"), (("answer", "cleo", 1, ("unknown",)),), requests=())
        # Upto of more than was written, or a second one, is no news.
        self.assert_event(proxy, heard(2, "upto 1 2"), (("break", 2),), requests=OLD[5])
        self.assert_event(proxy, heard(2, "upto 1 0", "upto 1 0", "well"), (("break", 2),), requests=((*ONE[5][0][:7], None),))
        # Labels of nothing, of the link itself, and of a view that was removed.
        for text in ("upto 0 0", "upto 2 0", "upto 7 9", "forgot 2", "forgot 3", "forgot 0"):
            self.assert_event(proxy, heard(2, text), (), requests=OLD[5], views=proxy[6])
        ended = after(proxy, heard(2, "upto 1 1"))[0]
        for text in ("upto 1 0", "upto 1 99", "forgot 1"):
            self.assert_event(ended, heard(2, text), (), views=ended[6])

    def test_hello_with_another_boot(self):
        self.assert_event(OLD, heard(2, "hello 2"), (("answer", "cleo", 1, ("unknown",)),), requests=(),
                          views=((2, "", ("ann", 2, (), (), None, None, "open")),))
        self.assert_event(OLD, heard(2, "hello 0"), (("answer", "cleo", 1, ("unknown",)),), requests=())

    def test_several_broken_views(self):
        # Two links of ann with boots 1 and 2 are broken; each has a request that may have been begun.
        mark, old = (True, 0, 1, 3), ("hi",)
        views = tuple((label, "", ("ann", boot, old, (), None, None, "broken")) for label, boot in ((3, 2), (5, 1), (7, 2)))
        requests = tuple(("cleo", number, True, "k", "hi", 0, 1, (label, 1)) for number, label in ((1, 7), (2, 5), (3, 3)))
        new = (9, "", ("ann", None, (), (), None, None, "open"))
        proxy = (SETTINGS, 2, 10, ((mark, 9, True, False),), ((), ()), requests, (*views, new), False)
        self.assert_event(proxy, heard(9, "hello 2"), (("write", 9, ("past", 3, 2)), ("answer", "cleo", 2, ("unknown",)),
                                                       ("write", 9, ("past", 7, 2))))
        self.assert_event(proxy, heard(9, "hello 3"), tuple(("answer", "cleo", number, ("unknown",)) for number in (3, 2, 1)))
        self.assert_event(proxy, heard(9, "hello 1", "upto 7 1", "upto 5 0"), (
            ("answer", "cleo", 3, ("unknown",)), ("write", 9, ("past", 5, 1)), ("answer", "cleo", 1, ("unknown",)), ("write", 9, ("ask", 1, "hi"))))

    def test_labels_of_other_houses(self):
        proxy = after(new_proxy(TWO), ask(1), ask(2), TICK, heard(1, "hello 1"), heard(2, "hello 1"))[0]
        self.assertEqual([request[7] for request in proxy[5]], [(1, 1), (1, 2)])
        proxy = after(proxy, ("lost", 1))[0]
        for text in ("upto 1 0", "upto 1 2", "upto 1 9", "forgot 1"):
            self.assert_event(proxy, heard(2, text), (), requests=proxy[5], views=proxy[6])

    def test_drops(self):
        for text in ("ask 1 x", "past 1 1", "look", "nothing", "", "hello 1", "hello 2", "answer 2 x", "answer 0 x", "away 2", "well ", "upto 1"):
            proxy = self.assert_event(ONE, heard(1, text, "answer 1 x"), (("break", 1),), requests=ONE[5])
            self.assertEqual(proxy[6], ((1, "", ("ann", 1, ("hi",), (), None, None, "broken")),))
            self.assertEqual(proxy[3], (((True, 1, 1, 2), None, False, False),))
        for piece in ("x", "01", "4:well;", "4:well,:", "\n", "201", "1:\x7f"):
            self.assert_event(ONE, ("received", 1, piece), (("break", 1),))
        for text in ("well", "away 0", "upto 1 0", "forgot 1", "answer 1 x"):
            self.assert_event(after(new_proxy(SETTINGS), TICK)[0], heard(1, text, "hello 1"), (("break", 1),), views=())
        twice = after(ONE, ask(2), heard(1, "answer 2 x"))[0]
        self.assert_event(twice, heard(1, "answer 2 x"), (("break", 1), ("answer", "cleo", 1, ("begun",))))
        self.assert_event(twice, heard(1, "away 1"), (("break", 1), ("answer", "cleo", 1, ("begun",))))
        ended = after(ONE, ask(2), heard(1, "away 1"))[0]
        for text in ("away 1", "away 0", "answer 2 x"):
            self.assert_event(ended, heard(1, text), (("break", 1), ("answer", "cleo", 1, ("begun",))))

    def test_gone(self):
        proxy = after(ONE, ask(2), ask(1, client="dora"), ask(3, False))[0]
        self.assert_event(proxy, ("gone", "cleo"), (), requests=(("dora", 1, True, "k", "hi", 1, 1, (1, 3)),))
        self.assert_event(proxy, ("gone", "emil"), (), requests=proxy[5])
        self.assert_event(OLD, ("gone", "cleo"), (), requests=(), views=OLD[6][1:])
        # An answer to nobody is a good look, and no output.
        self.assert_event(after(ONE, ("gone", "cleo"))[0], heard(1, "answer 1 x"), (), requests=())

    def test_draining(self):
        proxy = self.assert_event(ONE, ("draining", "ann", True), (), houses=(((True, 0, 1, 2), 1, False, True),))
        self.assertIs(is_drained(proxy, "ann"), False)
        proxy = self.assert_event(proxy, ask(2), (), requests=ONE[5] + (("cleo", 2, True, "k", "hi", 1, 1, None),))
        ended = self.assert_event(proxy, heard(1, "answer 1 x"), (("answer", "cleo", 1, ("done", "x")), ("break", 1)), views=())
        self.assertIs(is_drained(ended, "ann"), True)
        ended = self.assert_event(ended, TICK, ())
        proxy = self.assert_event(ended, ("draining", "ann", False), (("open", 2, "ann"),))
        self.assertIs(is_drained(proxy, "ann"), False)
        # A link to ask about a broken one is opened all the same, and closed when all is known.
        proxy = self.assert_event(after(ONE, ("draining", "ann", True))[0], ("lost", 1), ())
        self.assertIs(is_drained(proxy, "ann"), False)
        proxy = self.assert_event(proxy, TICK, (("open", 2, "ann"),))
        proxy = self.assert_event(proxy, heard(2, "hello 1"), (("write", 2, ("past", 1, 1)),))
        proxy = self.assert_event(proxy, heard(2, "upto 1 0"), (("break", 2),), requests=((*ONE[5][0][:7], None),), views=())
        self.assertIs(is_drained(proxy, "ann"), True)

    def test_stop_and_restart(self):
        proxy = self.assert_event(ONE, ("stop",), (), leaving=True, requests=ONE[5])
        self.assertIs(is_finished(proxy), False)
        self.assertIs(is_finished(stopped(new_proxy(SETTINGS))[0]), True)
        self.assertIs(is_finished(new_proxy(SETTINGS)), False)
        # It goes on to ask about its links.
        proxy = after(proxy, ("lost", 1))[0]
        proxy = self.assert_event(proxy, TICK, (("open", 2, "ann"),))
        self.assertIs(is_finished(after(proxy, heard(2, "hello 2"))[0]), True)
        both = after(new_proxy((TWO[0], "busy", *TWO[2:])), ask(1), ask(2), TICK, heard(1, "hello 1"), heard(2, "hello 1"), ask(3))[0]
        self.assert_event(both, ("restart",), (("break", 1), ("break", 2)),
                          requests=both[5], houses=(((True, 1, 1, 2), None, False, False),) * 2)
        self.assert_event(new_proxy(SETTINGS), ("restart",), ())

    def test_windows(self):
        proxy = after(ONE, ask(2), ask(3), ask(4), ask(5))[0]
        self.assertEqual([request[7] for request in proxy[5]], [(1, 1), (1, 2), (1, 3), None, None])
        self.assert_event(proxy, heard(1, "answer 2 x", "answer 1 x"), (
            ("answer", "cleo", 2, ("done", "x")), ("answer", "cleo", 1, ("done", "x")),
            ("write", 1, ("ask", 4, "hi")), ("write", 1, ("ask", 5, "hi"))))

    def test_forty_requests(self):
        proxy = after(new_proxy(SETTINGS), TICK, heard(1, "hello 1"))[0]
        for number in range(1, 40):
            proxy = after(proxy, ask(number), heard(1, f"answer {number} x"))[0]
        proxy = self.assert_event(proxy, ask(40), (("write", 1, ("ask", 40, "hi")),))
        proxy = self.assert_event(proxy, ask(41), ())
        proxy = self.assert_event(proxy, heard(1, "answer 40 x"), (("answer", "cleo", 40, ("done", "x")), ("break", 1)), views=())
        self.assertEqual([request[7] for request in proxy[5]], [None])
        proxy = self.assert_event(proxy, TICK, (("open", 2, "ann"),))
        self.assert_event(proxy, heard(2, "hello 1"), (("write", 2, ("ask", 1, "hi")),))

    def test_used_up_links_stay_to_hear_of_broken_ones(self):
        mark = (True, 0, 1, 9)
        old, bodies = (1, "", ("ann", 1, ("hi",), (), None, None, "broken")), ("x",) * 40
        request = ("cleo", 1, True, "k", "hi", 0, 1, (1, 1))
        for view in (("ann", 1, bodies, (), None, None, "open"), ("ann", 1, (), (), 0, None, "open")):
            proxy = (SETTINGS, 2, 3, ((mark, 2, False, False),), ((), ()), (request,), (old, (2, "", view)), False)
            proxy = self.assert_event(proxy, heard(2, "well"), (), requests=(request,))
            self.assert_event(proxy, heard(2, "forgot 1"), (("answer", "cleo", 1, ("unknown",)), ("break", 2)), views=())

    def test_ways(self):
        pool = (("ash", 3), ("oak", 2), ("elm", 1))
        for way, wanted in (("turns", [1, 2, 1, 2, 1, 3]), ("busy", [1, 2, 1, 1, 2, 3])):
            proxy = after(new_proxy((pool, way, RULE, 1, 9, 9, 9)), TICK, *[heard(label, "hello 1") for label in (1, 2, 3)])[0]
            proxy = after(proxy, *[ask(number) for number in range(6)])[0]
            self.assertEqual([request[7][0] for request in proxy[5]], wanted)
            self.assertEqual(proxy[4], ((0, 1, 2), (3, 2, 1)) if way == "turns" else ((), ()))
        proxy = after(new_proxy((pool, "key", RULE, 1, 9, 9, 9)), TICK, *[heard(label, "hello 1") for label in (1, 2, 3)])[0]
        proxy = after(proxy, ask(1, key="pear"), ask(2, key="plum"), ("draining", "elm", True), ask(3, key="pear"))[0]
        self.assertEqual([request[7][0] for request in proxy[5]], [3, 1, 2])

    def test_turns_of_another_lot(self):
        pool = (("ash", 1), ("oak", 1))
        proxy = after(new_proxy((pool, "turns", RULE, 1, 9, 9, 9)), TICK, heard(1, "hello 1"), ask(1), ask(2))[0]
        self.assertEqual(proxy[4], ((0,), (2,)))
        proxy = after(proxy, heard(2, "hello 1"))[0]
        self.assertEqual(proxy[4], ((0,), (2,)))
        proxy = after(proxy, ask(3))[0]
        self.assertEqual(proxy[4], ((0, 1), (1, 0)))
        more = after(proxy, ask(4))[0]
        self.assertEqual(more[4], ((0, 1), (1, 1)))
        self.assertEqual([request[7][0] for request in more[5]], [1, 1, 1, 2])
        # The drain closes a link on which nothing is placed, which leaves the first house alone.
        proxy = after(proxy, ("draining", "oak", True), ("draining", "oak", False))[0]
        self.assertEqual(proxy[4], ((0, 1), (1, 0)))
        proxy = after(proxy, ask(4))[0]
        self.assertEqual(proxy[4], ((0,), (1,)))


class Rows(Checks, unittest.TestCase):
    """Long rows of drawn events beside the model, and what the promises ask for at each of them."""

    def run_rows(self, seed, many, weights=(), settings=None):
        random, seen = Random(seed), Counter()
        for _ in range(many):
            chosen = settings or some_settings(random)
            driver, model, proxy, ledger = Driver(random, chosen, weights), PlainProxy(chosen), new_proxy(chosen), Ledger(self, chosen)
            for _ in range(60):
                event = driver.event(model)
                outputs = model.event(*event)
                proxy, told = done(proxy, event)
                self.assertEqual(repr((proxy, told)), repr((model.value(), outputs)), event)
                ledger.note(event, model, outputs)
                self.note(proxy, model, random)
                seen.update([event[0], *[(entry[2][0], event[0]) for entry in model.diary if entry[0] == "answer"]])
        return seen

    def note(self, proxy, model, random):
        self.assertIs(is_proxy(proxy), True)
        self.assertIs(is_finished(proxy), model.leaving and not model.requests)
        for request in model.requests[:1] + random.sample(model.requests, min(1, len(model.requests))):
            self.assertEqual(fate_of(proxy, request.client, request.number), model.fate(request))
        # An event that does nothing but settle changes nothing.
        name = random.choice(model.names)
        self.assertEqual(set_draining(proxy, name, model.draining[name]), (proxy, ()))
        self.assertIs(is_drained(proxy, name), model.draining[name] and model.link[name] is None and not model.waits(name))

    def test_all_kinds(self):
        self.run_rows(30, 300)

    def test_many_messages(self):
        seen = self.run_rows(31, 250, {"received": 40, "request": 12, "lost": 4, "tick": 4, "odd": 0.01, "stop": 0, "gone": 0.1})
        for answer in ("done", "begun", "unknown"):
            self.assertGreater(seen[answer, "received"], 20, seen)

    def test_many_breaks(self):
        seen = self.run_rows(32, 250, {"received": 40, "request": 12, "lost": 12, "tick": 4, "odd": 0.01, "stop": 0, "gone": 0, "restart": 2})
        for answer in ("begun", "none"):
            self.assertGreater(seen[answer, "lost"], 3, seen)

    def test_long_waits(self):
        settings = ((("ann", 1), ("bob", 3), ("cy", 2)), "turns", (1, 1, 1, 2), 2, 99, 99, 40)
        self.run_rows(33, 40, {"received": 40, "request": 30, "tick": 2, "lost": 3, "odd": 0}, settings)

    def test_drains(self):
        self.run_rows(34, 120, {"draining": 6, "lost": 4, "received": 30, "odd": 0.01})

    def test_stopped_proxies_finish(self):
        for chosen, rows in drawn(35, 60):
            proxy = stopped(rows[-1][2][0])[0]
            for _ in range(chosen[4]):
                proxy = ticked(proxy)[0]
            self.assertIs(is_finished(proxy), True)

    def test_pieces_cut_anywhere(self):
        random = Random(36)
        stream = framed("hello 1", "well", "answer 1 ab", "upto 7 7", "answer 2 ,:", "away 2")
        start = after(new_proxy(SETTINGS), ask(1), ask(2), TICK)[0]
        start = after(start, ("received", 1, stream[:10]))[0]
        whole = after(start, ("received", 1, stream[10:]))[0]
        for _ in range(60):
            cuts = sorted(random.sample(range(10, len(stream)), random.randint(1, 12)))
            proxy = start
            for one, other in zip([10, *cuts], [*cuts, len(stream)]):
                proxy = received(proxy, 1, stream[one:other])[0]
            self.assertEqual(proxy[5], whole[5])
            self.assertEqual([request[:1] for request in proxy[5]], [])

    def test_known_again(self):
        # A request that was answered is not known any more.
        proxy = after(ONE, heard(1, "answer 1 x"))[0]
        self.assertEqual(after(proxy, ask(1))[1], (("write", 1, ("ask", 2, "hi")),))


class Limits(Checks, unittest.TestCase):

    def test_great_turns(self):
        pool = (("ann", 97), ("bob", 89), ("cy", 100), ("dee", 83))
        settings = (pool, "turns", RULE, 1, 99, 99, 40)
        proxy = after(new_proxy(settings), TICK, *[heard(label, "hello 1") for label in (1, 2, 3, 4)])[0]
        proxy = (*proxy[:4], ((0, 1, 2, 3), counts_after(pool, 10 ** 9 - 20)), *proxy[5:])
        for number in range(12):
            proxy, outputs = self.assert_quick(requested, proxy, "cleo", number, True, "k", "x" * 150)
            self.assertEqual(outputs[0][0], "write")
        self.assertEqual(proxy[4], ((0, 1, 2, 3), counts_after(pool, 10 ** 9 - 8)))
        self.assert_quick(restarted, proxy)

    def test_eight_houses(self):
        pool = tuple((word, 100 - at) for at, word in enumerate(("a", "b", "c", "d", "e", "f", "g", "h")))
        proxy = self.assert_quick(after, new_proxy((pool, "turns", RULE, 1, 99, 99, 40)), TICK,
                                  *[heard(label, "hello 1") for label in range(1, 9)], *[ask(number) for number in range(12)])[0]
        self.assertEqual(sum(proxy[4][1]), 12)

    def test_full_links(self):
        settings = ((("ann", 1),), "busy", RULE, 1, 99, 99, 40)
        proxy = after(new_proxy(settings), TICK, heard(1, "hello 1"))[0]
        for number in range(1, 41):
            proxy = requested(proxy, "cleo", number, True, "k", "x" * 150)[0]
        stream = framed(*[f"answer {number} {'y' * 150}" for number in range(1, 41)])
        self.assertEqual(len(self.assert_quick(received, proxy, 1, stream)[1]), 41)
        self.assertEqual(len(self.assert_quick(ticked, proxy)[1]), 1)

    def test_rows(self):
        for seed in range(5):
            random = Random(seed)
            settings = ((("ann", 97), ("bob", 89), ("cy", 100), ("dee", 83)), random.choice(("turns", "busy", "key")), RULE, 1, 99, 12, 40)
            driver, model, events = Driver(random, settings, {"stop": 0}), PlainProxy(settings), []
            for _ in range(60):
                events.append(driver.event(model))
                model.event(*events[-1])
            self.assertEqual(self.assert_quick(after, new_proxy(settings), *events)[0], model.value())


if __name__ == "__main__":
    unittest.main()
