"""Records: what a row of events makes the proxy do."""

from answergate.errors import BadEvent, BadProxy, BadSettings
from answergate.events import can_happen, gate_after
from answergate.proxies import is_proxy, is_settings, new_proxy


def happened(proxy, event):
    """The proxy after an event, and its outputs."""
    if not is_proxy(proxy):
        raise BadProxy(proxy)
    if not can_happen(proxy, event):
        raise BadEvent(event)
    gate = gate_after(proxy, event)
    return (gate.value(), tuple(gate.outputs))


def proxy_and_record(settings, events):
    """The proxy after a tuple of events from a new one, and their record."""
    if not is_settings(settings):
        raise BadSettings(settings)
    if not isinstance(events, tuple):
        raise BadEvent(events)
    proxy = new_proxy(settings)
    record = []
    for at, event in enumerate(events):
        if not can_happen(proxy, event):
            raise BadEvent(event)
        gate = gate_after(proxy, event)
        record.append(("event", at))
        record.extend(gate.outputs)
        proxy = gate.value()
    return (proxy, tuple(record))


def record_of(settings, events):
    return proxy_and_record(settings, events)[1]


def proxy_after(settings, events):
    return proxy_and_record(settings, events)[0]
