"""A world while a step is done in it: what the events of its proxy lead to."""

from answergate.events import gate_after
from answergate.gates import Gate
from answergate.houses import house_new, met, took
from answergate.links import link_new, wrote
from answergate.proxies import new_proxy


def world_new(settings):
    proxy = new_proxy(settings)
    return (proxy, (), tuple([house_new(name) for name, _ in settings[0]]), (), ())


def known_fate(proxy, client, number):
    """What a proxy knew of a request, or an empty string if it did not have it."""
    gate = Gate(proxy)
    for errand in gate.errands:
        if (errand.client, errand.number) == (client, number):
            return gate.errand_fate(errand)
    return ""


class Scene:
    """A world that changes, made from its tuple."""

    def __init__(self, world):
        self.proxy, links, houses, placed, past = world
        self.links = {link[0]: link for link in links}
        self.houses = {house[0]: house for house in houses}
        # For each place, the client and the number of the request that was written there.
        self.placed = {place: (client, number) for place, client, number in placed}
        self.past = list(past)
        # What the proxy experiences, as [10.3] says it.
        self.hearing = []

    def value(self):
        """The tuple of the world."""
        links = tuple([self.links[label] for label in sorted(self.links)])
        placed = tuple([(place, client, number) for place, (client, number) in sorted(self.placed.items())])
        return (self.proxy, links, tuple(self.houses.values()), placed, tuple(self.past))

    def happen(self, *event):
        """The proxy has an event, and its outputs take effect."""
        before = self.proxy
        gate = gate_after(before, event)
        self.proxy = gate.value()
        self.note_hearing(event, gate.texts)
        self.note_client(event)
        refusals = []
        for word, *items in gate.outputs:
            if word == "open":
                if not self.open_link(*items):
                    refusals.append(items[0])
            elif word == "write":
                self.write(*items)
            elif word == "break":
                del self.links[items[0]]
            else:
                self.past.append(("answered", *items, known_fate(before, items[0], items[1])))
        for label in refusals:
            self.happen("refused", label)

    def note_hearing(self, event, texts):
        if event[0] != "received":
            self.hearing.append(event)
        elif texts != []:
            self.hearing.append(("messages", event[1], tuple(texts)))

    def note_client(self, event):
        """Put into the past that a request was accepted, or that a client went."""
        if event[0] == "gone":
            self.past.append(event)
        if event[0] == "request":
            _, client, number, once, _, body = event
            if (client, number) in [request[:2] for request in self.proxy[5]]:
                self.past.append(("accepted", client, number, once, body))

    def open_link(self, label, name):
        """Let a house meet a link, and return whether it does not refuse it."""
        self.houses[name], messages = met(self.houses[name], label)
        if messages == ():
            return False
        self.links[label] = link_new(label, name)
        self.house_writes(name, label, messages)
        return True

    def write(self, label, message):
        """The proxy writes a message to a link."""
        self.links[label] = wrote(self.links[label], message)
        if message[0] == "ask":
            place = (label, message[1])
            # A request that was just written is still placed where it was written.
            for request in self.proxy[5]:
                if request[7] == place:
                    self.placed[place] = request[:2]

    def house_writes(self, name, label, messages):
        """A house writes messages on one of its rows, which are lost if the link is not open."""
        for message in messages:
            if label in self.links and self.links[label][1] == name:
                self.links[label] = wrote(self.links[label], message)

    def house_takes(self, name, label, piece):
        """Characters of a link arrive at its house."""
        self.houses[name], messages, whole = took(self.houses[name], label, piece)
        self.house_writes(name, label, messages)
        if not whole:
            self.lose(label)

    def lose(self, label):
        """A link breaks, and not by the proxy."""
        del self.links[label]
        self.happen("lost", label)
