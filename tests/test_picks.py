"""[5.1] Pools to [5.5] By key, and the interface of answergate/picks.py."""

import unittest
from fractions import Fraction
from itertools import combinations, product
from math import ceil, floor
from random import Random

from answergate import picks
from answergate.errors import BadCounts, BadLot, BadNumber, BadPool, BadWord
from answergate.picks import by_key, counts_after, is_pool, least_busy, next_turn, score, turns
from tests.checks import Checks
from tests.proxy_model import plain_score, plain_turns
from tests.samples import NO_NUMBERS, NO_STRINGS, NO_WORDS, PARTS, WORDS, spoiled

LABELS = ("ash", "oak", "elm", "fir", "yew", "a", "z", "abcdefghij")
POOL = (("ash", 3), ("oak", 2), ("elm", 1))
NO_INTEGERS = tuple(thing for thing in NO_NUMBERS if type(thing) is not int)


def pool_of(*weights):
    return tuple(zip(LABELS, weights))


def some_pools(seed, many):
    """Pools of 1 to 8 positions: alike, small, any, and with one much greater than the others."""
    random = Random(seed)
    for _ in range(many):
        size = random.randint(1, 8)
        kind = random.choice(("alike", "small", "any", "great"))
        most = {"small": 4, "great": 3}.get(kind, 100)
        weights = [random.randint(1, most)] * size if kind == "alike" else [random.randint(1, most) for _ in range(size)]
        if kind == "great":
            weights[random.randrange(size)] = random.randint(50, 100)
        yield pool_of(*weights)


FIXED = (pool_of(1), pool_of(100), pool_of(1, 1), pool_of(100, 100), pool_of(100, 1), pool_of(1, 100), pool_of(*[1] * 8),
         pool_of(*[100] * 8), pool_of(100, *[1] * 7), pool_of(*[1] * 7, 100), pool_of(99, 100, 98), pool_of(3, 2, 1),
         pool_of(97, 89, 83, 79, 73, 71, 67, 61), pool_of(50, 50, 1), pool_of(6, 10, 15))


def counted(pool, given):
    return tuple(given.count(at) for at in range(len(pool)))


def is_plain_pool(thing):
    if type(thing) is not tuple or len(thing) not in range(1, 9):
        return False
    for pair in thing:
        if type(pair) is not tuple or len(pair) != 2 or type(pair[0]) is not str or type(pair[1]) is not int:
            return False
        if len(pair[0]) not in range(1, 11) or not set(pair[0]) <= set("abcdefghijklmnopqrstuvwxyz"):
            return False
        if not 1 <= pair[1] <= 100:
            return False
    return len({label for label, _ in thing}) == len(thing)


class Interface(Checks, unittest.TestCase):

    def test_names_and_parameters(self):
        self.assert_interface(picks, {
            "is_pool": ["thing"], "next_turn": ["pool", "counts"], "turns": ["pool", "t"], "counts_after": ["pool", "t"],
            "least_busy": ["pool", "lot", "busy"], "by_key": ["pool", "lot", "key"], "score": ["key", "label"],
        })

    def test_by_name(self):
        self.assertIs(is_pool(thing=POOL), True)
        self.assertEqual(next_turn(counts=(1, 1, 0), pool=POOL), 0)
        self.assertEqual(turns(t=6, pool=POOL), (0, 1, 0, 1, 0, 2))
        self.assertEqual(counts_after(t=6, pool=POOL), (3, 2, 1))
        self.assertEqual(least_busy(busy=(2, 1, 1), lot=(0, 1, 2), pool=POOL), 0)
        self.assertEqual(by_key(key="pear", lot=(0, 1, 2), pool=POOL), 2)
        self.assertEqual(score(label="ash", key="pear"), 7398)


class Pools(Checks, unittest.TestCase):

    def test_pools(self):
        for pool in (*FIXED, *some_pools(1, 100), POOL):
            self.assert_bool(True, is_pool, pool)
        for word in WORDS:
            self.assert_bool(True, is_pool, ((word, 1),))

    def test_others(self):
        for thing in ((), pool_of(0), pool_of(101), pool_of(-1), pool_of(True), pool_of(1, False), pool_of("1"), pool_of(None),
                      (("ash", 1), ("ash", 1)), (("ash", 1), ("oak", 2), ("ash", 3)), (("ash",),), (("ash", 1, 1),), ("ash", 1),
                      (["ash", 1],), [("ash", 1)], ((1, "ash"),), (("ash", 1), ()), {"ash": 1}, (("ash", (1,)),),
                      tuple((word, 1) for word in (*LABELS, "more")), ((("ash",), 1),)):
            self.assert_bool(False, is_pool, thing)
        for word in NO_WORDS:
            self.assert_bool(False, is_pool, ((word, 1),))

    def test_any_values(self):
        for pool in (POOL, pool_of(1), pool_of(100, 1)):
            for thing in spoiled(pool):
                self.assert_bool(is_plain_pool(thing), is_pool, thing)

    def test_bad_pools(self):
        for thing in (*NO_STRINGS, (), pool_of(0), pool_of(True), [("ash", 1)], (("ash", 1), ("ash", 2))):
            self.assert_error(BadPool, {"thing": thing}, next_turn, thing, "x")
            self.assert_error(BadPool, {"thing": thing}, turns, thing, -1)
            self.assert_error(BadPool, {"thing": thing}, counts_after, thing, "x")
            self.assert_error(BadPool, {"thing": thing}, least_busy, thing, (), None)
            self.assert_error(BadPool, {"thing": thing}, by_key, thing, (), "")


class Turns(Checks, unittest.TestCase):

    def test_beside_the_sentences(self):
        for pool in (*FIXED, *some_pools(2, 60)):
            many = min(2 * sum(weight for _, weight in pool) + 3, 500)
            self.assertEqual(turns(pool, many), plain_turns(pool, many))
            self.assertEqual(turns(pool, 0), ())
            self.assertEqual(turns(pool, 1), turns(pool, many)[:1])

    def test_kinds(self):
        self.assert_result((0, 1, 0, 1, 0, 2), turns, POOL, 6)
        self.assert_result((3, 2, 1), counts_after, POOL, 6)
        self.assert_result(0, next_turn, POOL, (1, 1, 0))

    def test_fair_at_every_moment(self):
        for pool in (*FIXED, *some_pools(3, 60)):
            whole = sum(weight for _, weight in pool)
            many = min(2 * whole + 5, 2000)
            given = [0] * len(pool)
            for time, at in enumerate(turns(pool, many), 1):
                given[at] += 1
                share = Fraction(pool[at][1], whole)
                self.assertLessEqual(time, ceil(given[at] / share))
                self.assertGreater(time, floor((given[at] - 1) / share))
                for count, (_, weight) in zip(given, pool):
                    self.assertLessEqual(floor(Fraction(time * weight, whole)), count)
                    self.assertLessEqual(count, ceil(Fraction(time * weight, whole)))
                if time % whole == 0:
                    self.assertEqual(given, [time // whole * weight for _, weight in pool])

    def test_repeat(self):
        for pool in some_pools(4, 40):
            whole = sum(weight for _, weight in pool)
            given = turns(pool, 2 * whole)
            self.assertEqual(given[:whole], given[whole:])
            self.assertEqual(counted(pool, given[:whole]), tuple(weight for _, weight in pool))

    def test_counts(self):
        for pool in (*FIXED, *some_pools(5, 30)):
            given = plain_turns(pool, 120)
            for time in (*range(12), 50, 119, 120):
                self.assertEqual(counts_after(pool, time), counted(pool, given[:time]))
            for time in (*range(12), 50, 119):
                self.assertEqual(next_turn(pool, counted(pool, given[:time])), given[time])

    def test_great_counts(self):
        random = Random(6)
        for pool in (*FIXED, *some_pools(7, 10)):
            whole = sum(weight for _, weight in pool)
            given = turns(pool, whole)
            rounds = 10 ** 9 // whole
            for many in (1, 2, 1000, rounds):
                for beside in (-2, -1, 0, 1, 2, random.randrange(whole)):
                    time = many * whole + beside
                    if time < 0:
                        continue
                    wanted = tuple(time // whole * weight + given[:time % whole].count(at) for at, (_, weight) in enumerate(pool))
                    self.assertEqual(counts_after(pool, time), wanted)
                    self.assertEqual(next_turn(pool, wanted), given[time % whole])
            self.assertEqual(sum(counts_after(pool, 10 ** 9)), 10 ** 9)
        self.assertEqual(counts_after(POOL, 6 * 10 ** 38), (3 * 10 ** 38, 2 * 10 ** 38, 10 ** 38))

    def test_wrong_times(self):
        for thing in (*NO_INTEGERS, -1, -10 ** 39):
            self.assert_error(BadNumber, {"thing": thing}, counts_after, POOL, thing)
            self.assert_error(BadNumber, {"thing": thing}, turns, POOL, thing)
        for thing in (2001, 10 ** 9, 10 ** 39):
            self.assert_error(BadNumber, {"thing": thing}, turns, POOL, thing)
            self.assertEqual(sum(counts_after(POOL, thing)), thing)
        self.assertEqual(len(turns(POOL, 2000)), 2000)

    def assert_counts(self, pool, thing, right):
        if thing in right:
            self.assertIn(next_turn(pool, thing), range(len(pool)))
        else:
            self.assert_error(BadCounts, {"thing": thing}, next_turn, pool, thing)

    def test_counts_with_turns_more_or_fewer(self):
        for pool in (POOL, pool_of(1), pool_of(5, 5), pool_of(1, 100), pool_of(7, 3, 2, 9), *some_pools(8, 8)):
            given = plain_turns(pool, 160)
            right = {counted(pool, given[:time]) for time in range(161)}
            for time in (0, 1, 2, 3, 10, 47, 100):
                counts = counted(pool, given[:time])
                for at in range(len(pool)):
                    for more in (-2, -1, 1, 2, 40):
                        self.assert_counts(pool, counts[:at] + (counts[at] + more,) + counts[at + 1:], right)
                for one, other in combinations(range(len(pool)), 2):
                    changed = list(counts)
                    changed[one], changed[other] = changed[other], changed[one]
                    self.assert_counts(pool, tuple(changed), right)
                    changed = list(counts)
                    changed[one], changed[other] = changed[one] + 1, changed[other] - 1
                    self.assert_counts(pool, tuple(changed), right)

    def test_all_small_counts(self):
        for pool in (pool_of(2, 1), pool_of(1, 2), pool_of(3, 2, 1), pool_of(1, 1, 1), pool_of(2, 5)):
            right = {counted(pool, plain_turns(pool, time)) for time in range(20)}
            for counts in product(range(6), repeat=len(pool)):
                self.assert_counts(pool, counts, right)

    def test_counts_of_another_kind(self):
        for thing in (*NO_STRINGS, *PARTS, (), (1, 1), (1, 1, 0, 0), [1, 1, 0], (1, True, 0), (True, 1, False), (1, 1, "0"), (1, 1, None),
                      (1, 1, -0 - 1), (2, 1, -1), (1, (1,), 0), ((1, 1, 0),), "110", (3 * 10 ** 39, 2 * 10 ** 39, 10 ** 39 + 2)):
            self.assert_error(BadCounts, {"thing": thing}, next_turn, POOL, thing)
        self.assert_error(BadCounts, {"thing": (True,)}, next_turn, pool_of(1), (True,))
        self.assertEqual(next_turn(POOL, (3 * 10 ** 38, 2 * 10 ** 38, 10 ** 38)), 0)

    def test_limits(self):
        for pool in (pool_of(*[100] * 8), pool_of(97, 89, 83, 79, 73, 71, 67, 100)):
            self.assert_quick(turns, pool, 2000)
            counts = self.assert_quick(counts_after, pool, 10 ** 9 - 1)
            self.assert_quick(next_turn, pool, counts)


class LeastBusy(Checks, unittest.TestCase):

    def test_beside_fractions(self):
        random = Random(9)
        for pool in (*FIXED, *some_pools(10, 300)):
            most = random.choice((1, 3, 40, 10 ** 9, 10 ** 39))
            busy = tuple(random.randint(0, most) for _ in pool)
            if random.random() < 0.3:
                busy = (random.randint(0, most),) * len(pool)
            lot = tuple(sorted(random.sample(range(len(pool)), random.randint(1, len(pool)))))
            _, wanted = min((Fraction(busy[at] + 1, pool[at][1]), at) for at in lot)
            self.assert_result(wanted, least_busy, pool, lot, busy)

    def test_alike(self):
        pool = pool_of(2, 4, 1, 6)
        self.assert_result(0, least_busy, pool, (0, 1, 2, 3), (1, 3, 0, 5))
        self.assert_result(1, least_busy, pool, (1, 2, 3), (1, 3, 0, 5))
        self.assert_result(3, least_busy, pool, (3,), (1, 3, 0, 5))
        self.assert_result(3, least_busy, pool, (0, 1, 2, 3), (0, 0, 0, 0))
        self.assert_result(2, least_busy, pool_of(1, 1, 2), (0, 1, 2), (0, 0, 0))

    def test_wrong_lots(self):
        for thing in (*NO_STRINGS[:9], *NO_STRINGS[10:], (), (0, 0), (1, 0), (3,), (0, 3), (-1,), (-1, 0), (True,), (False,), (0, True),
                      [0], (0, None), ("0",), (0, 1, 2, 3), ((0,),), 0, "0", ("ash",), (("ash", 3),), (0, "1"), (0, 2, 1), (10 ** 39,)):
            if thing == (1,) and type(thing[0]) is int:
                continue
            self.assert_error(BadLot, {"thing": thing}, least_busy, POOL, thing, None)
            self.assert_error(BadLot, {"thing": thing}, by_key, POOL, thing, "")

    def test_wrong_busy(self):
        for thing in (*NO_STRINGS, (), (0, 0), (0, 0, 0, 0), [0, 0, 0], (0, 0, -1), (0, 0, True), (False, 0, 0), (0, "0", 0), (0, None, 0),
                      (0, 0, (0,)), "000", ((0, 0, 0),)):
            if thing == (1, 2, 3):
                continue
            self.assert_error(BadCounts, {"thing": thing}, least_busy, POOL, (0,), thing)


class ByKey(Checks, unittest.TestCase):

    def test_scores(self):
        random = Random(11)
        words = ["".join(random.choice("abyz") for _ in range(random.randint(1, 10))) for _ in range(60)]
        for key, label in (*zip(words, reversed(words)), *product(WORDS, LABELS)):
            self.assert_result(plain_score(key, label), score, key, label)

    def test_beside_scores(self):
        random = Random(12)
        for pool in some_pools(13, 200):
            key = "".join(random.choice("abcxyz") for _ in range(random.randint(1, 10)))
            lot = tuple(sorted(random.sample(range(len(pool)), random.randint(1, len(pool)))))
            wanted = max(lot, key=lambda at: (plain_score(key, pool[at][0]), -at))
            self.assert_result(wanted, by_key, pool, lot, key)
            for at in lot:
                fewer = tuple(other for other in lot if other != at)
                if fewer and at != wanted:
                    self.assertEqual(by_key(pool, fewer, key), wanted)
            for at in set(range(len(pool))) - set(lot):
                self.assertIn(by_key(pool, tuple(sorted((*lot, at))), key), (at, wanted))

    def test_labels_with_equal_scores(self):
        # Labels that are found here to have the same score with this key.
        seen, pairs = {}, []
        for letters in product("abcdefghijklmnopqrstuvwxyz", repeat=4):
            label = "".join(letters)
            value = plain_score("pear", label)
            if value in seen:
                pairs.append((seen[value], label))
            seen[value] = label
        self.assertGreater(len(pairs), 100)
        for one, other in pairs[:40]:
            self.assertEqual(score("pear", one), score("pear", other))
            for first, second in ((one, other), (other, one)):
                self.assert_result(0, by_key, ((first, 1), (second, 2)), (0, 1), "pear")
                self.assert_result(1, by_key, ((first, 1), (second, 2)), (1,), "pear")

    def test_wrong_words(self):
        for thing in NO_WORDS:
            self.assert_error(BadWord, {"thing": thing}, by_key, POOL, (0,), thing)
            self.assert_error(BadWord, {"thing": thing}, score, thing, "ash")
            self.assert_error(BadWord, {"thing": thing}, score, "pear", thing)
            self.assert_error(BadWord, {"thing": thing}, score, thing, "")


if __name__ == "__main__":
    unittest.main()
