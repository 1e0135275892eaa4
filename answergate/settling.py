"""Settling: what the proxy does at the end of each event."""

from answergate.gates import away_of, bodies_of, boot_of, is_broken
from answergate.picks import by_key, least_busy, turn_after

LINK_MOST = 40


def settle(gate):
    """Bring a gate to rest: settling it again changes nothing more."""
    remove_views(gate)
    close_links(gate)
    open_links(gate)
    place_requests(gate)


def remove_views(gate):
    """Remove the broken views on which no request is placed."""
    for label in sorted(gate.views):
        if is_broken(gate.views[label]) and gate.placed(label) == []:
            gate.forget(label)


def close_links(gate):
    for post in gate.posts:
        if is_used_up(gate, post):
            gate.close(post)


def is_used_up(gate, post):
    """Whether the link of a house gets no request any more, and nothing is left to hear on it."""
    if post.link is None:
        return False
    view = gate.views[post.link]
    if boot_of(view) is None or gate.placed(post.link) != [] or gate.is_asked_about(post.name):
        return False
    return post.draining or away_of(view) is not None or len(bodies_of(view)) >= LINK_MOST


def open_links(gate):
    for post in gate.posts:
        if post.link is None and gate.is_look_due(post):
            if not post.draining or gate.is_asked_about(post.name):
                gate.open_link(post)


def place_requests(gate):
    """Place the requests in the queue, the first one first, as long as some house can take one."""
    queue = [errand for errand in gate.errands if errand.place is None]
    for errand in queue:
        lot = tuple([at for at, post in enumerate(gate.posts) if can_take(gate, post)])
        if lot == ():
            return
        gate.place_on(errand, gate.posts[picked(gate, lot, errand)])


def can_take(gate, post):
    is_up = post.mark[0]
    if not is_up or post.draining or post.link is None:
        return False
    view = gate.views[post.link]
    if boot_of(view) is None or away_of(view) is not None or len(bodies_of(view)) >= LINK_MOST:
        return False
    return len(gate.placed(post.link)) < gate.window


def picked(gate, lot, errand):
    """The position of the lot that is given this request, by the way of the proxy."""
    if gate.way == "turns":
        return turn_taken(gate, lot)
    if gate.way == "busy":
        busy = [len(gate.placed(post.link)) if post.link is not None else 0 for post in gate.posts]
        return least_busy(gate.pool, lot, tuple(busy))
    return by_key(gate.pool, lot, errand.key)


def turn_taken(gate, lot):
    """The position of the lot that has the next turn, which is counted."""
    pool = tuple([gate.pool[at] for at in lot])
    counts = gate.turn[1] if gate.turn[0] == lot else tuple([0] * len(lot))
    at = turn_after(pool, counts)
    gate.turn = (lot, (*counts[:at], counts[at] + 1, *counts[at + 1:]))
    return lot[at]
