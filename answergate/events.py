"""Events of the proxy: which can happen to it, and what they do."""

from answergate.basics import is_integer, is_number, is_tagged, is_word
from answergate.errors import BadBody, BadBool, BadLabel, BadName, BadNumber, BadPiece, BadWord, GateError, Known
from answergate.gates import Errand, Gate, boot_of
from answergate.messages import is_body
from answergate.settling import settle


def check_nothing(_):
    pass


def check_client(_, client):
    if not is_word(client):
        raise BadName(client)


def check_request(proxy, client, number, once, key, body):
    check_client(proxy, client)
    if not is_number(number):
        raise BadNumber(number)
    if not isinstance(once, bool):
        raise BadBool(once)
    if not is_word(key):
        raise BadWord(key)
    if not is_body(body):
        raise BadBody(body)
    if (client, number) in [request[:2] for request in proxy[5]]:
        raise Known(client, number)


def check_link(proxy, label):
    # True is equal to 1, but no label.
    if not is_integer(label) or label not in [house[1] for house in proxy[3]]:
        raise BadLabel(label)


def check_refused(proxy, label):
    check_link(proxy, label)
    boots = [boot_of(view) for other, _, view in proxy[6] if other == label]
    if boots != [None]:
        raise BadLabel(label)


def check_received(proxy, label, piece):
    check_link(proxy, label)
    if not isinstance(piece, str):
        raise BadPiece(piece)


def check_name(proxy, name):
    if name not in [pair[0] for pair in proxy[0][0]]:
        raise BadName(name)


def check_draining(proxy, name, is_draining):
    check_name(proxy, name)
    if not isinstance(is_draining, bool):
        raise BadBool(is_draining)


def accept(gate, client, number, once, key, body):
    """Accept a request, or refuse it at once."""
    if gate.leaving or len(gate.errands) >= gate.room:
        gate.tell("answer", client, number, ("busy",))
    else:
        gate.errands.append(Errand((client, number, once, key, body, gate.clock, gate.tries, None)))


def tick(gate):
    gate.clock += 1
    for errand in list(gate.errands):
        if gate.clock >= errand.born + gate.patience:
            expire(gate, errand)
    for post in gate.posts:
        if post.link is not None and gate.is_look_due(post):
            look_again(gate, post)


def expire(gate, errand):
    """Answer a request whose time is over."""
    if errand.once:
        gate.give_up(errand)
    else:
        gate.answer(errand, ("none",))


def look_again(gate, post):
    """Begin a look at a house, or end the one that was not answered in time."""
    if post.looking:
        gate.drop(post)
    else:
        gate.write(post.link, "look")
        gate.start_look(post)


def refuse(gate, label):
    post = gate.post_with(label)
    gate.forget(label)
    post.link = None
    gate.look(post, False)


def receive(gate, label, piece):
    gate.receive(gate.post_with(label), piece)


def lose(gate, label):
    gate.lose(gate.post_with(label))


def go(gate, client):
    gate.errands = [errand for errand in gate.errands if errand.client != client]


def drain(gate, name, is_draining):
    post = gate.post_named(name)
    post.draining = is_draining


def stop(gate):
    gate.leaving = True


def restart(gate):
    for post in gate.posts:
        if post.link is not None:
            gate.drop(post)


# For each kind of event: how many items it has, what raises the errors for them, and what it does.
COUNTS = {
    "request": 5, "tick": 0, "refused": 1, "received": 2, "lost": 1, "gone": 1, "draining": 2, "stop": 0, "restart": 0,
}
CHECKS = {
    "request": check_request, "tick": check_nothing, "refused": check_refused, "received": check_received,
    "lost": check_link, "gone": check_client, "draining": check_draining, "stop": check_nothing,
    "restart": check_nothing,
}
DEEDS = {
    "request": accept, "tick": tick, "refused": refuse, "received": receive, "lost": lose, "gone": go,
    "draining": drain, "stop": stop, "restart": restart,
}


def check_event(proxy, event):
    """Raise the error for the first item of an event that is not possible for this proxy, if there is one."""
    word, *items = event
    check = CHECKS[word]
    check(proxy, *items)


def can_happen(proxy, thing):
    """Whether any value is an event that can happen to this proxy."""
    if not is_tagged(thing) or COUNTS.get(thing[0]) != len(thing) - 1:
        return False
    try:
        check_event(proxy, thing)
    except GateError:
        return False
    return True


def gate_after(proxy, event):
    """The gate of a proxy after an event that can happen to it."""
    gate = Gate(proxy)
    word, *items = event
    deed = DEEDS[word]
    deed(gate, *items)
    settle(gate)
    return gate
