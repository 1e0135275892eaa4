"""Worlds: a proxy, its links and houses, and what happened in them."""

from answergate.basics import is_between, is_integer, is_number, is_word
from answergate.checks import is_past
from answergate.errors import BadStep, BadWorld
from answergate.houses import is_house, row_of
from answergate.links import is_link
from answergate.proxies import is_proxy
from answergate.scenes import Scene, world_new
from answergate.steps import plain_steps, play, played


def is_world(thing):
    if not isinstance(thing, tuple) or len(thing) != 5:
        return False
    proxy, links, houses, placed, past = thing
    if not is_proxy(proxy) or not is_past(past):
        return False
    return are_houses(proxy, houses) and are_links(proxy, houses, links) and are_places(proxy, placed)


def are_houses(proxy, thing):
    """Whether any value is a tuple of the houses of the proxy's pool, with rows of links that it has opened."""
    pool, label = proxy[0][0], proxy[2]
    if not isinstance(thing, tuple) or not all([is_house(house) for house in thing]):
        return False
    if [house[0] for house in thing] != [name for name, _ in pool]:
        return False
    return all([row[0] < label for house in thing for row in house[4]])


def are_links(proxy, houses, thing):
    """Whether any value is the ascending tuple of the links of the proxy's houses, open and with rows there."""
    if not isinstance(thing, tuple) or not all([is_link(link) for link in thing]):
        return False
    wanted = [(post[1], house) for post, house in zip(proxy[3], houses) if post[1] is not None]
    if [link[:2] for link in thing] != sorted([(label, house[0]) for label, house in wanted]):
        return False
    if not all([link[4] == "open" for link in thing]):
        return False
    # A house that is not up has no rows.
    return all([row_of(house, label) is not None for label, house in wanted])


def are_places(proxy, thing):
    """Whether any value tells of each link which requests were written to it, at least of those that wait."""
    if not isinstance(thing, tuple) or not all([is_placed(proxy[2], triple) for triple in thing]):
        return False
    places = [place for place, _, _ in thing]
    if places != sorted(set(places)):
        return False
    waiting = [(request[7], request[0], request[1]) for request in proxy[5] if request[7] is not None]
    return all([triple in thing for triple in waiting])


def is_placed(label, thing):
    """Whether any value is a triple of a place, below this label, and a client and a number."""
    if not isinstance(thing, tuple) or len(thing) != 3:
        return False
    place, client, number = thing
    if not isinstance(place, tuple) or len(place) != 2 or not is_word(client) or not is_number(number):
        return False
    return is_between(place[0], 1, label - 1) and is_integer(place[1]) and place[1] >= 1


def new_world(settings):
    return world_new(settings)


def stepped(world, step):
    """The world after a step."""
    if not is_world(world):
        raise BadWorld(world)
    scene = Scene(world)
    if not play(scene, step):
        raise BadStep(step)
    return scene.value()


def world_after(settings, steps):
    """The world after a tuple of steps from a new one."""
    return played(settings, steps).value()


def possible_steps(world):
    """The possible steps but requests, drains and clients that go, and of moves those of one or all characters."""
    if not is_world(world):
        raise BadWorld(world)
    return plain_steps(Scene(world))
