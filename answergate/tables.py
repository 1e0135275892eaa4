"""The parts of a proxy's tuple: whether they have the right forms, and agree with each other."""

from answergate.basics import is_between, is_integer, is_number, is_word
from answergate.frames import is_rest
from answergate.gates import answers_of, bodies_of, is_broken
from answergate.knowledge import is_view
from answergate.marks import is_mark
from answergate.messages import is_body
from answergate.picks import are_counts, is_lot


def are_posts(settings, thing):
    """Whether any value has what a proxy holds of each house of its pool; the labels of links may be any values."""
    pool, _, rule, _, _, _, _ = settings
    if not isinstance(thing, tuple) or len(thing) != len(pool):
        return False
    return all([is_post(rule, post) for post in thing])


def is_post(rule, thing):
    if not isinstance(thing, tuple) or len(thing) != 4:
        return False
    mark, _, looking, draining = thing
    return is_mark(rule, mark) and isinstance(looking, bool) and isinstance(draining, bool)


def is_turn(pool, thing):
    if not isinstance(thing, tuple) or len(thing) != 2:
        return False
    lot, counts = thing
    if not is_lot(pool, lot):
        return False
    if lot == ():
        return counts == ()
    return are_counts(tuple([pool[at] for at in lot]), counts)


def are_requests(settings, clock, thing):
    """Whether any value has requests that are not answered; their places may be any values."""
    if not isinstance(thing, tuple) or not all([is_request(settings, clock, request) for request in thing]):
        return False
    return len(set([request[:2] for request in thing])) == len(thing)


def is_request(settings, clock, thing):
    if not isinstance(thing, tuple) or len(thing) != 8:
        return False
    client, number, once, key, body, born, tries, _ = thing
    if not is_word(client) or not is_number(number) or not isinstance(once, bool):
        return False
    if not is_word(key) or not is_body(body):
        return False
    return is_between(born, 0, clock) and is_between(tries, 0, settings[3])


def are_views(label, thing):
    """Whether any value has what was received on links with labels below this one."""
    if not isinstance(thing, tuple) or not all([is_seen(label, triple) for triple in thing]):
        return False
    labels = [triple[0] for triple in thing]
    return labels == sorted(set(labels))


def is_seen(label, thing):
    if not isinstance(thing, tuple) or len(thing) != 3:
        return False
    other, rest, view = thing
    return is_between(other, 1, label - 1) and is_rest(rest) and is_view(view)


def are_placed(requests, views):
    """Whether each request is in the queue, or placed on a link that it was written to and not answered on."""
    places = [request[7] for request in requests if request[7] is not None]
    if not all([is_place(place) for place in places]) or len(set(places)) != len(places):
        return False
    seen = {label: view for label, _, view in views}
    return all([request[7] is None or is_written(request, seen) for request in requests])


def is_place(thing):
    return isinstance(thing, tuple) and len(thing) == 2 and all([is_integer(number) for number in thing])


def is_written(request, seen):
    """Whether a view has the body of a placed request under its number, and no answer to it."""
    label, number = request[7]
    if label not in seen:
        return False
    bodies, answers = bodies_of(seen[label]), answers_of(seen[label])
    if not 1 <= number <= len(bodies) or number in answers:
        return False
    return bodies[number - 1] == request[4]


def are_linked(pool, posts, requests, views):
    """Whether just the links of the houses have open views, and each other view a request that waits for it."""
    seen = {label: view for label, _, view in views}
    links = [post[1] for post in posts]
    for link, (name, _) in zip(links, pool):
        if link is None:
            continue
        if not is_integer(link) or link not in seen or is_broken(seen[link]) or seen[link][0] != name:
            return False
    waiting = [request[7][0] for request in requests if request[7] is not None]
    names = [name for name, _ in pool]
    return all([label in links or is_left(rest, view, names) and label in waiting for label, rest, view in views])


def is_left(rest, view, names):
    """Whether this is the rest and the view of a broken link of one of these houses."""
    return is_broken(view) and rest == "" and view[0] in names
