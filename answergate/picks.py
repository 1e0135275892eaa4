"""Picks: which position of a pool is chosen, by turns, by how busy each is, or by key."""

from answergate.basics import is_integer, is_word
from answergate.errors import BadCounts, BadLot, BadNumber, BadPool, BadWord

POOL_MOST = 8
WEIGHT_MOST = 100
TURNS_MOST = 2000
SCORE_START = 7
SCORE_FACTOR = 251
SCORE_MODULUS = 65521


def is_pool(thing):
    if not isinstance(thing, tuple) or not 1 <= len(thing) <= POOL_MOST:
        return False
    if not all([is_share(pair) for pair in thing]):
        return False
    return len(set([pair[0] for pair in thing])) == len(thing)


def is_share(thing):
    """Whether any value is a pair of a word and a weight."""
    if not isinstance(thing, tuple) or len(thing) != 2:
        return False
    label, weight = thing
    return is_word(label) and is_integer(weight) and 1 <= weight <= WEIGHT_MOST


def is_lot(pool, thing):
    """Whether any value is a lot of this pool, perhaps an empty one."""
    if not isinstance(thing, tuple) or not all([is_integer(at) and 0 <= at < len(pool) for at in thing]):
        return False
    return list(thing) == sorted(set(thing))


def are_loads(pool, thing):
    """Whether any value is a tuple of integers from 0 on, one for each position of the pool."""
    if not isinstance(thing, tuple) or len(thing) != len(pool):
        return False
    return all([is_integer(load) and load >= 0 for load in thing])


def are_counts(pool, thing):
    """Whether any value is the counts of this pool after some number of its turns."""
    return are_loads(pool, thing) and counts_from_start(pool, sum(thing)) == thing


def weight_sum(pool):
    return sum([weight for _, weight in pool])


def turn_after(pool, counts):
    """The position that is given the turn after these counts."""
    whole = weight_sum(pool)
    time = sum(counts) + 1
    best, best_due = None, None
    for at, (_, weight) in enumerate(pool):
        given = counts[at]
        # Rounded up, as two minus signs around a division do.
        due = -(-(given + 1) * whole // weight)
        is_ready = time > given * whole // weight
        if is_ready and (best is None or due < best_due):
            best, best_due = at, due
    return best


def first_turns(pool, many):
    """The list of the first turns, each found from the counts before it."""
    counts = [0] * len(pool)
    given = []
    for _ in range(many):
        at = turn_after(pool, counts)
        counts[at] += 1
        given.append(at)
    return given


def counts_from_start(pool, many):
    # After as many turns as the sum of the weights, each position has been given its weight, and they repeat.
    rounds, rest = divmod(many, weight_sum(pool))
    given = first_turns(pool, rest)
    return tuple([rounds * weight + given.count(at) for at, (_, weight) in enumerate(pool)])


def next_turn(pool, counts):
    """The position that is given the next turn."""
    if not is_pool(pool):
        raise BadPool(pool)
    if not are_counts(pool, counts):
        raise BadCounts(counts)
    return turn_after(pool, counts)


def turns(pool, t):
    """The tuple of the first t turns."""
    if not is_pool(pool):
        raise BadPool(pool)
    if not is_integer(t) or not 0 <= t <= TURNS_MOST:
        raise BadNumber(t)
    return tuple(first_turns(pool, t))


def counts_after(pool, t):
    """The counts after t turns."""
    if not is_pool(pool):
        raise BadPool(pool)
    if not is_integer(t) or t < 0:
        raise BadNumber(t)
    return counts_from_start(pool, t)


def least_busy(pool, lot, busy):
    """The position of the lot that is least busy for its weight."""
    check_lot(pool, lot)
    if not are_loads(pool, busy):
        raise BadCounts(busy)
    best = lot[0]
    for at in lot:
        # Multiplied crosswise, as there are no fractions: this one's share of work against the best one's.
        if (busy[at] + 1) * pool[best][1] < (busy[best] + 1) * pool[at][1]:
            best = at
    return best


def by_key(pool, lot, key):
    """The position of the lot whose label has the greatest score with the key."""
    check_lot(pool, lot)
    # A key that is no word makes score raise the error for it: there is at least one label.
    scores = [score(key, pool[at][0]) for at in lot]
    return lot[scores.index(max(scores))]


def check_lot(pool, lot):
    """Raise the error for a pool that is none, or a lot that is none of it or empty."""
    if not is_pool(pool):
        raise BadPool(pool)
    if not is_lot(pool, lot) or lot == ():
        raise BadLot(lot)


def score(key, label):
    for word in (key, label):
        if not is_word(word):
            raise BadWord(word)
    value = SCORE_START
    for char in f"{key}/{label}":
        value = (value * SCORE_FACTOR + ord(char)) % SCORE_MODULUS
    return value
