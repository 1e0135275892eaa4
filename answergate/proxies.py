"""The proxy: what it does at each event, and what it knows of its requests."""

from answergate.basics import is_between, is_integer, is_number
from answergate.errors import BadProxy, BadSettings, NoRequest
from answergate.events import check_event, check_name, gate_after
from answergate.gates import Gate
from answergate.marks import is_health_rule, new_mark
from answergate.picks import is_pool
from answergate.tables import are_linked, are_placed, are_posts, are_requests, are_views, is_turn

WAYS = ("turns", "busy", "key")


def is_settings(thing):
    if not isinstance(thing, tuple) or len(thing) != 7:
        return False
    pool, way, rule, tries, patience, room, window = thing
    if not is_pool(pool) or way not in WAYS or not is_health_rule(rule):
        return False
    if not is_between(tries, 0, 9) or not is_between(patience, 1, 99):
        return False
    return is_between(room, 1, 99) and is_between(window, 1, 40)


def is_proxy(thing):
    if not isinstance(thing, tuple) or len(thing) != 8:
        return False
    settings, clock, label, houses, turn, requests, views, leaving = thing
    if not is_settings(settings) or not isinstance(leaving, bool):
        return False
    if not is_integer(clock) or clock < 0 or not is_integer(label) or label < 1:
        return False
    if not are_posts(settings, houses) or not is_turn(settings[0], turn):
        return False
    if not are_requests(settings, clock, requests) or not are_views(label, views):
        return False
    return are_placed(requests, views) and are_linked(settings[0], houses, requests, views)


def new_proxy(settings):
    if not is_settings(settings):
        raise BadSettings(settings)
    house = (new_mark(settings[2]), None, False, False)
    return (settings, 0, 1, tuple([house] * len(settings[0])), ((), ()), (), (), False)


def checked_gate(proxy):
    """The gate of any value that is a proxy."""
    if not is_proxy(proxy):
        raise BadProxy(proxy)
    return Gate(proxy)


def happen(proxy, *event):
    """The proxy after an event, and its outputs, where both the proxy and the items of the event may be any values."""
    if not is_proxy(proxy):
        raise BadProxy(proxy)
    check_event(proxy, event)
    gate = gate_after(proxy, event)
    return (gate.value(), tuple(gate.outputs))


def requested(proxy, client, number, once, key, body):
    """The event that a client sends a request, which is not to be repeated if once is True."""
    return happen(proxy, "request", client, number, once, key, body)


def ticked(proxy):
    return happen(proxy, "tick")


def gone(proxy, client):
    return happen(proxy, "gone", client)


def refused(proxy, label):
    """The event that a house refuses the link that is being opened to it."""
    return happen(proxy, "refused", label)


def received(proxy, label, piece):
    """The event that characters arrive on a link."""
    return happen(proxy, "received", label, piece)


def lost(proxy, label):
    """The event that a link breaks by itself."""
    return happen(proxy, "lost", label)


def set_draining(proxy, name, is_draining):
    return happen(proxy, "draining", name, is_draining)


def stopped(proxy):
    return happen(proxy, "stop")


def restarted(proxy):
    return happen(proxy, "restart")


def is_finished(proxy):
    """Whether the proxy is leaving and has no requests."""
    gate = checked_gate(proxy)
    return gate.leaving and gate.errands == []


def is_drained(proxy, name):
    """Whether a house is being drained and nothing of it is waited for."""
    gate = checked_gate(proxy)
    check_name(proxy, name)
    post = gate.post_named(name)
    return post.draining and post.link is None and not gate.is_asked_about(name)


def fate_of(proxy, client, number):
    """What is known of a request of the proxy: "begun", "not begun" or "open"."""
    gate = checked_gate(proxy)
    for errand in gate.errands:
        # True is equal to 1, but no number.
        if errand.client == client and errand.number == number and is_number(number):
            return gate.errand_fate(errand)
    raise NoRequest(client, number)
