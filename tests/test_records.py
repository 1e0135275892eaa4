"""[8.4] Records, and the interface of answergate/records.py."""

import unittest
from random import Random

from answergate import records
from answergate.errors import BadEvent, BadProxy, BadSettings
from answergate.proxies import new_proxy
from answergate.records import happened, proxy_after, record_of
from tests.checks import Checks
from tests.driving import Driver, done, some_settings
from tests.models import framed
from tests.proxy_model import PlainProxy
from tests.samples import NO_STRINGS, PARTS, spoiled

SETTINGS = ((("ann", 1),), "busy", (1, 2, 1, 4), 1, 9, 5, 3)
ASK = ("request", "cleo", 1, True, "k", "hi")
HELLO = ("received", 1, framed("hello 1"))
KINDS = ("request", "tick", "refused", "received", "lost", "gone", "draining", "stop", "restart")
SIZES = dict(zip(KINDS, (5, 0, 1, 2, 1, 1, 2, 0, 0)))


def is_word(thing):
    return type(thing) is str and 0 < len(thing) < 11 and set(thing) <= set("abcdefghijklmnopqrstuvwxyz")


def is_plain_event(proxy, thing):
    """Whether any value describes an event that can happen to a proxy."""
    if type(thing) is not tuple or not thing or type(thing[0]) is not str or SIZES.get(thing[0]) != len(thing) - 1:
        return False
    word, *items = thing
    links = [house[1] for house in proxy[3] if house[1] is not None]
    opening = [label for label, _, view in proxy[6] if label in links and view[1] is None]
    if word == "request":
        client, number, once, key, body = items
        if not is_word(client) or type(number) is not int or not 0 <= number <= 10 ** 9 or type(once) is not bool:
            return False
        if not is_word(key) or type(body) is not str or len(body) > 150 or not all(" " <= char <= "~" for char in body):
            return False
        return (client, number) not in [(request[0], request[1]) for request in proxy[5]]
    if word in ("refused", "received", "lost"):
        label = items[0]
        if type(label) is not int or label not in (opening if word == "refused" else links):
            return False
        return word != "received" or type(items[1]) is str
    if word == "gone":
        return is_word(items[0])
    if word == "draining":
        return type(items[0]) is str and items[0] in dict(proxy[0][0]) and type(items[1]) is bool
    return True


def drawn(seed, many):
    """Settings with rows of events."""
    random = Random(seed)
    for _ in range(many):
        settings = some_settings(random)
        driver, model, events = Driver(random, settings), PlainProxy(settings), []
        for _ in range(60):
            events.append(driver.event(model))
            model.event(*events[-1])
        yield settings, tuple(events)


class Records(Checks, unittest.TestCase):

    def test_names_and_parameters(self):
        self.assert_interface(records, {
            "happened": ["proxy", "event"], "record_of": ["settings", "events"], "proxy_after": ["settings", "events"],
        })

    def test_by_name(self):
        proxy = new_proxy(SETTINGS)
        self.assertEqual(happened(event=ASK, proxy=proxy), done(proxy, ASK))
        self.assertEqual(record_of(events=(ASK,), settings=SETTINGS), (("event", 0),))
        self.assertEqual(proxy_after(events=(ASK,), settings=SETTINGS), done(proxy, ASK)[0])

    def test_by_hand(self):
        self.assert_result((), record_of, SETTINGS, ())
        self.assert_result(new_proxy(SETTINGS), proxy_after, SETTINGS, ())
        events = (ASK, ("tick",), HELLO, ("draining", "ann", False), ("lost", 1), ("tick",), ("refused", 2), ("gone", "cleo"), ("stop",),
                  ("restart",))
        self.assert_result((("event", 0), ("event", 1), ("open", 1, "ann"), ("event", 2), ("write", 1, ("ask", 1, "hi")), ("event", 3),
                            ("event", 4), ("event", 5), ("open", 2, "ann"), ("event", 6), ("event", 7), ("event", 8), ("event", 9)),
                           record_of, SETTINGS, events)
        events = (ASK, ("tick",), HELLO, ("received", 1, framed("answer 1 ih", "what", "well")), ("request", "dora", 1, False, "k", ""), ("stop",), ASK)
        self.assert_result((("event", 0), ("event", 1), ("open", 1, "ann"), ("event", 2), ("write", 1, ("ask", 1, "hi")), ("event", 3),
                            ("answer", "cleo", 1, ("done", "ih")), ("break", 1), ("event", 4), ("event", 5), ("event", 6),
                            ("answer", "cleo", 1, ("busy",))), record_of, SETTINGS, events)

    def test_each_event_as_in_proxies(self):
        for settings, events in drawn(1, 40):
            proxy, record = new_proxy(settings), ()
            for at, event in enumerate(events):
                pair = done(proxy, event)
                self.assertEqual(repr(happened(proxy, event)), repr(pair))
                proxy, record = pair[0], record + (("event", at),) + pair[1]
            self.assertEqual(repr(record_of(settings, events)), repr(record))
            self.assertEqual(repr(proxy_after(settings, events)), repr(proxy))
            self.assertEqual(repr(proxy_after(settings, events)), repr(proxy))

    def test_events_that_cannot_happen(self):
        random = Random(2)
        for settings, events in drawn(3, 12):
            proxy = new_proxy(settings)
            for event in events[:random.choice((0, 3, 20, 60))]:
                proxy = done(proxy, event)[0]
            label = ([house[1] for house in proxy[3] if house[1]] + [1])[0]
            for event in (*random.sample(events, 2), ("refused", label), ("received", label, "4:we"), ("lost", label), ("gone", "cleo"),
                          ("draining", settings[0][0][0], True), ("tick",)):
                for thing in spoiled(event, PARTS + KINDS + (label, label + 1, "cleo", settings[0][0][0])):
                    if is_plain_event(proxy, thing):
                        self.assertEqual(happened(proxy, thing), done(proxy, thing))
                    else:
                        try:
                            happened(proxy, thing)
                        except BadEvent as error:
                            self.assertIs(error.thing, thing)
                        else:
                            self.fail(thing)

    def test_first_that_cannot_happen(self):
        wrong = (("lost", 1), ("refused", 1), ("received", 1, ""), ("lost", True), ("tick", 1), ["tick"], "tick", None, ("nothing",), ASK)
        for settings, events in drawn(4, 15):
            label = proxy_after(settings, events)[2]
            for at in (0, 1, 17, 60):
                for thing in (("lost", label), ("refused", label), ("received", label, ""), ("lost", True), *wrong[4:9]):
                    row = events[:at] + (thing,) + (("nothing", 2),) + events[at:]
                    self.assert_error(BadEvent, {"thing": thing}, record_of, settings, row)
                    self.assert_error(BadEvent, {"thing": thing}, proxy_after, settings, row)
        for thing in wrong[:4]:
            self.assert_error(BadEvent, {"thing": thing}, record_of, SETTINGS, (ASK, thing))
        self.assert_error(BadEvent, {"thing": ASK}, record_of, SETTINGS, (ASK, ("tick",), ASK))
        # An event that is possible only with its place in the row.
        self.assert_error(BadEvent, {"thing": ("refused", 1)}, record_of, SETTINGS, (ASK, ("tick",), HELLO, ("refused", 1)))
        self.assertEqual(len(record_of(SETTINGS, (ASK, ("tick",), ("refused", 1)))), 4)

    def test_wrong_arguments(self):
        for thing in (*NO_STRINGS, new_proxy(SETTINGS)[:7], list(new_proxy(SETTINGS))):
            self.assert_error(BadProxy, {"thing": thing}, happened, thing, None)
        for thing in (*NO_STRINGS, SETTINGS[:6], list(SETTINGS)):
            self.assert_error(BadSettings, {"thing": thing}, record_of, thing, None)
            self.assert_error(BadSettings, {"thing": thing}, proxy_after, thing, None)
        for thing in NO_STRINGS:
            self.assert_error(BadEvent, {"thing": thing}, happened, new_proxy(SETTINGS), thing)
            if type(thing) is not tuple:
                self.assert_error(BadEvent, {"thing": thing}, record_of, SETTINGS, thing)
                self.assert_error(BadEvent, {"thing": thing}, proxy_after, SETTINGS, thing)
        self.assert_error(BadEvent, {"thing": [ASK]}, record_of, SETTINGS, [ASK])
        self.assert_error(BadEvent, {"thing": "request"}, record_of, SETTINGS, ASK)

    def test_limits(self):
        for settings, events in drawn(5, 10):
            self.assert_quick(record_of, settings, events)
            self.assert_quick(happened, self.assert_quick(proxy_after, settings, events), ("tick",))


if __name__ == "__main__":
    unittest.main()
