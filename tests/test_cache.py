"""Tests of zoneward.cache: points 1 and 33 to 36."""

import copy
import inspect
import random
import unittest

from zoneward import cache as cache_module
from zoneward.cache import Cache

SOA_VALUE = (("s",), 1, 2, 3, 4, 5)
DAY = 86400


def address(label, ttl, *values):
    return ((label,), "A", ttl, values or (7,))


def soa(ttl, name=()):
    return (name, "SOA", ttl, (SOA_VALUE,))


class OtherCache:
    """A cache in another way: a list of entries, each a list of its key, its end, its rank and its set."""

    def __init__(self, limit):
        self.limit = limit
        self.entries = []

    def add(self, now, key, rank, record_set):
        ttl = min(record_set[2], DAY) or 1
        self.entries = [one for one in self.entries if one[0] != key] + [[key, now + ttl, rank, record_set]]
        if len(self.entries) > self.limit:
            self.entries = [one for one in self.entries if one[1] > now]
        if len(self.entries) > self.limit:
            ends = [one[1] for one in self.entries]
            self.entries.pop(ends.index(min(ends)))

    def get(self, now, key):
        for other, ends, rank, (name, kind, _, values) in self.entries:
            if other == key and ends > now:
                return rank, (name, kind, ends - now, values)
        return None

    def put(self, now, record_set, rank):
        name, kind = record_set[:2]
        old = self.get(now, ("+", name, kind))
        if rank == 2 or old is None or old[0] == 1:
            gone = [("-", name, kind), ("-", name, None)]
            self.entries = [one for one in self.entries if one[0] not in gone]
            self.add(now, ("+", name, kind), rank, record_set)

    def put_negative(self, now, name, kind, record_set):
        self.add(now, ("-", name, kind), 0, record_set)

    def find(self, now, name, kind, rank):
        found = self.get(now, ("+", name, kind))
        return found[1] if found is not None and found[0] >= rank else None

    def find_negative(self, now, name, kind):
        missing, empty = self.get(now, ("-", name, None)), self.get(now, ("-", name, kind))
        if missing is not None:
            return missing[1], True
        return None if empty is None else (empty[1], False)


class CacheCase(unittest.TestCase):
    def put_all(self, limit, *puts):
        """A cache after the puts, each a time and a set with a rank, or a name and a kind that have no set."""
        cache = Cache(limit)
        for now, *put in puts:
            if len(put) == 2:
                self.assertIsNone(cache.put(now, *put))
            else:
                self.assertIsNone(cache.put_negative(now, *put))
        return cache

    def labels(self, cache, now, labels="abcdefgh"):
        """Those labels for which the cache has an address, or knows that there is none."""
        return "".join(label for label in labels if cache.find(now, (label,), "A") is not None
                       or cache.find_negative(now, (label,), "A") is not None)


class InterfaceTest(unittest.TestCase):
    def test_the_methods_stand_in_the_class_itself(self):
        arguments = {"__init__": "(self, limit)", "put": "(self, now, record_set, rank)",
                     "put_negative": "(self, now, name, kind, record_set)", "size": "(self)",
                     "find": "(self, now, name, kind, rank=1)", "find_negative": "(self, now, name, kind)"}
        self.assertEqual(Cache.__module__, cache_module.__name__)
        for name, signature in arguments.items():
            self.assertEqual(str(inspect.signature(vars(Cache)[name])), signature)


class PositiveTest(CacheCase):
    def test_the_example_of_the_document(self):
        cache = self.put_all(9, (100, (("a",), "A", 50, (7,)), 1))
        self.assertEqual(cache.find(130, ("a",), "A"), (("a",), "A", 20, (7,)))
        self.assertIs(cache.find(130, ("a",), "A", 2) is None, True)

    def test_an_empty_cache(self):
        cache = Cache(1)
        self.assertIsNone(cache.find(0, ("a",), "A"))
        self.assertIsNone(cache.find_negative(0, ("a",), "A"))
        self.assertEqual(cache.size(), 0)

    def test_the_seconds_that_are_left(self):
        cache = self.put_all(9, (100, address("a", 50, 3, 4), 2))
        for now, left in [(100, 50), (101, 49), (148, 2), (149, 1)]:
            self.assertEqual(cache.find(now, ("a",), "A"), address("a", left, 3, 4))
        for now in (150, 151, 10 ** 9):
            self.assertIsNone(cache.find(now, ("a",), "A"))

    def test_the_bounds_of_ttls(self):
        for ttl, kept in [(0, 1), (1, 1), (2, 2), (DAY - 1, DAY - 1), (DAY, DAY), (DAY + 1, DAY), (2 ** 31 - 1, DAY),
                          (2 ** 31, DAY)]:
            for start in (0, 77):
                cache = self.put_all(9, (start, address("a", ttl), 1))
                self.assertEqual(cache.find(start, ("a",), "A"), address("a", kept))
                self.assertEqual(cache.find(start + kept - 1, ("a",), "A"), address("a", 1))
                self.assertIsNone(cache.find(start + kept, ("a",), "A"))
                cache = self.put_all(9, (start, ("a",), "A", soa(ttl)))
                self.assertEqual(cache.find_negative(start, ("a",), "A"), (soa(kept), False))
                self.assertEqual(cache.find_negative(start + kept - 1, ("a",), "A"), (soa(1), False))
                self.assertIsNone(cache.find_negative(start + kept, ("a",), "A"))

    def test_names_and_kinds(self):
        cache = self.put_all(9, (0, address("a", 5), 1), (0, ((), "A", 5, (1,)), 1), (0, (("a",), "TXT", 5, ("x",)), 1))
        self.assertEqual(cache.find(0, ("a",), "A"), address("a", 5))
        self.assertEqual(cache.find(0, (), "A"), ((), "A", 5, (1,)))
        self.assertEqual(cache.find(0, ("a",), "TXT"), (("a",), "TXT", 5, ("x",)))
        for name, kind in [(("a",), "NS"), (("b",), "A"), (("a", "b"), "A"), ((), "TXT")]:
            self.assertIsNone(cache.find(0, name, kind))
        self.assertEqual(cache.size(), 3)

    def test_ranks(self):
        for rank in (1, 2):
            cache = self.put_all(9, (0, address("a", 5), rank))
            self.assertEqual(cache.find(0, ("a",), "A"), address("a", 5))
            self.assertEqual(cache.find(0, ("a",), "A", 1), address("a", 5))
            self.assertEqual(cache.find(0, ("a",), "A", 2), address("a", 5) if rank == 2 else None)
            self.assertEqual(cache.find(0, ("a",), "A", rank=2), address("a", 5) if rank == 2 else None)

    def test_which_ranks_replace_which(self):
        for old, new, replaced in [(1, 1, True), (1, 2, True), (2, 2, True), (2, 1, False)]:
            for ttl in (3, 50):
                cache = self.put_all(9, (0, address("a", 9, 1), old), (4, address("a", ttl, 2), new))
                self.assertEqual(cache.find(4, ("a",), "A"), address("a", ttl, 2) if replaced else address("a", 5, 1))
                self.assertEqual(cache.find(4, ("a",), "A", 2) is None, old == new == 1)
                self.assertEqual(cache.size(), 1)

    def test_an_entry_that_has_ended_is_replaced_by_any_rank(self):
        for now, replaced in [(8, False), (9, True), (10, True)]:
            cache = self.put_all(9, (0, address("a", 9, 1), 2), (now, address("a", 30, 2), 1))
            self.assertEqual(cache.find(now, ("a",), "A"), address("a", 30, 2) if replaced else address("a", 1, 1))
            self.assertEqual(cache.find(now, ("a",), "A", 2) is None, replaced)

    def test_a_rank_of_another_name_or_kind_does_not_matter(self):
        cache = self.put_all(9, (0, address("a", 9), 2), (0, address("b", 9), 1), (0, (("a",), "TXT", 9, ("x",)), 1))
        self.assertEqual(cache.find(0, ("b",), "A"), address("b", 9))
        self.assertEqual(cache.find(0, ("a",), "TXT"), (("a",), "TXT", 9, ("x",)))

    def test_finding_removes_nothing(self):
        cache = self.put_all(9, (0, address("a", 3), 2), (0, ("b",), None, soa(3)))
        for now in (0, 2, 3, 9, 100):
            cache.find(now, ("a",), "A")
            cache.find_negative(now, ("b",), "A")
            self.assertEqual(cache.size(), 2)


class NegativeTest(CacheCase):
    def test_a_kind_without_a_set(self):
        cache = self.put_all(9, (100, ("a",), "A", soa(50, ("z",))))
        self.assertEqual(cache.find_negative(130, ("a",), "A"), (soa(20, ("z",)), False))
        self.assertIs(cache.find_negative(130, ("a",), "A").__class__, tuple)
        for name, kind in [(("a",), "NS"), (("b",), "A"), ((), "A"), (("b", "a"), "A")]:
            self.assertIsNone(cache.find_negative(130, name, kind))
        self.assertIsNone(cache.find(130, ("a",), "A"))
        self.assertIsNone(cache.find(130, ("z",), "SOA"))

    def test_a_name_that_does_not_exist(self):
        cache = self.put_all(9, (100, ("a",), None, soa(50)))
        for kind in ("A", "NS", "CNAME", "SOA", "MX", "TXT"):
            self.assertEqual(cache.find_negative(130, ("a",), kind), (soa(20), True))
        self.assertIsNone(cache.find_negative(130, ("b", "a"), "A"))

    def test_a_name_that_does_not_exist_comes_first(self):
        for kinds in ((None, "A"), ("A", None)):
            cache = self.put_all(9, *[(0, ("a",), kind, soa(10 if kind is None else 20)) for kind in kinds])
            self.assertEqual(cache.find_negative(9, ("a",), "A"), (soa(1), True))
            self.assertEqual(cache.find_negative(9, ("a",), "TXT"), (soa(1), True))
            self.assertEqual(cache.find_negative(10, ("a",), "A"), (soa(10), False))
            self.assertIsNone(cache.find_negative(10, ("a",), "TXT"))
            self.assertIsNone(cache.find_negative(20, ("a",), "A"))

    def test_a_negative_entry_replaces_one_of_the_same_name_and_kind(self):
        for kind in (None, "A"):
            cache = self.put_all(9, (0, ("a",), kind, soa(10)), (4, ("a",), kind, soa(3, ("z",))))
            self.assertEqual(cache.find_negative(5, ("a",), "A"), (soa(2, ("z",)), kind is None))
            self.assertIsNone(cache.find_negative(7, ("a",), "A"))
            self.assertEqual(cache.size(), 1)

    def test_a_negative_entry_removes_nothing(self):
        for rank in (1, 2):
            for kind in (None, "A"):
                cache = self.put_all(9, (0, address("a", 9), rank), (0, ("a",), "A", soa(7)), (0, ("a",), None, soa(7)),
                                     (1, ("a",), kind, soa(5)))
                self.assertEqual(cache.find(1, ("a",), "A"), address("a", 8))
                self.assertEqual(cache.find_negative(1, ("a",), "A"), (soa(6 if kind == "A" else 5), True))
                self.assertEqual(cache.size(), 3)

    def test_what_a_set_removes(self):
        others = [(0, ("b",), "A", soa(9)), (0, ("b",), None, soa(9)), (0, ("a",), "TXT", soa(9)),
                  (0, ("a", "a"), None, soa(9))]
        for rank in (1, 2):
            cache = self.put_all(9, (0, ("a",), "A", soa(9)), (0, ("a",), None, soa(9)), *others,
                                 (1, address("a", 3), rank))
            self.assertEqual(cache.size(), 5)
            self.assertIsNone(cache.find_negative(1, ("a",), "A"))
            self.assertEqual(cache.find(1, ("a",), "A"), address("a", 3))
            self.assertEqual(cache.find_negative(1, ("a",), "TXT"), (soa(8), False))
            self.assertEqual(cache.find_negative(1, ("b",), "A"), (soa(8), True))
            self.assertEqual(cache.find_negative(1, ("a", "a"), "A"), (soa(8), True))

    def test_a_set_that_is_not_put_removes_nothing(self):
        cache = self.put_all(9, (0, address("a", 9, 1), 2), (0, ("a",), "A", soa(7)), (0, ("a",), None, soa(7)),
                             (1, address("a", 50, 2), 1))
        self.assertEqual(cache.find(1, ("a",), "A"), address("a", 8, 1))
        self.assertEqual(cache.find_negative(1, ("a",), "A"), (soa(6), True))
        self.assertEqual(cache.size(), 3)


class LimitTest(CacheCase):
    def test_the_entry_that_ends_first_is_removed(self):
        cache = self.put_all(3, (0, address("a", 30), 1), (0, address("b", 10), 2), (0, address("c", 20), 1),
                             (1, address("d", 40), 1))
        self.assertEqual((cache.size(), self.labels(cache, 1)), (3, "acd"))
        cache.put(2, address("e", 50), 1)
        self.assertEqual((cache.size(), self.labels(cache, 2)), (3, "ade"))
        cache.put_negative(2, ("f",), "A", soa(60))
        self.assertEqual((cache.size(), self.labels(cache, 2)), (3, "def"))

    def test_the_end_counts_and_not_the_ttl(self):
        cache = self.put_all(2, (0, address("a", 10), 1), (9, address("b", 2), 1), (9, address("c", 5), 1))
        self.assertEqual(self.labels(cache, 9), "bc")

    def test_of_several_the_one_that_was_put_first(self):
        for order in ("abc", "cab", "bca"):
            cache = self.put_all(3, *[(0, address(label, 10), 1) for label in order], (1, address("d", 90), 1))
            self.assertEqual(self.labels(cache, 1), "".join(sorted(order[1:])) + "d")
        cache = self.put_all(3, (0, address("a", 10), 1), (5, address("b", 5), 1), (9, address("c", 1), 1),
                             (9, address("d", 9), 1))
        self.assertEqual(self.labels(cache, 9), "bcd")

    def test_an_entry_that_replaced_another_one_was_put_then(self):
        cache = self.put_all(3, (0, address("a", 10), 1), (0, address("b", 10), 1), (0, address("c", 10), 1),
                             (2, address("a", 8), 1), (3, address("d", 90), 1))
        self.assertEqual(self.labels(cache, 3), "acd")
        cache = self.put_all(3, (0, ("a",), "A", soa(10)), (0, address("b", 10), 1), (0, address("c", 10), 1),
                             (2, ("a",), "A", soa(8)), (3, address("d", 90), 1))
        self.assertEqual(self.labels(cache, 3), "acd")

    def test_a_set_that_was_not_put_does_not_count_as_put(self):
        cache = self.put_all(2, (0, address("a", 10), 2), (0, address("b", 10), 2), (0, address("a", 10), 1),
                             (0, address("c", 90), 1))
        self.assertEqual(self.labels(cache, 0), "bc")

    def test_the_new_entry_may_be_removed_itself(self):
        cache = self.put_all(2, (0, address("a", 10), 1), (0, address("b", 10), 1), (0, address("c", 9), 2))
        self.assertEqual((cache.size(), self.labels(cache, 0)), (2, "ab"))
        cache.put_negative(0, ("c",), None, soa(9))
        self.assertEqual((cache.size(), self.labels(cache, 0)), (2, "ab"))
        cache.put(0, address("c", 10), 1)
        self.assertEqual((cache.size(), self.labels(cache, 0)), (2, "bc"))

    def test_a_limit_of_1(self):
        cache = self.put_all(1, (0, address("a", 10), 1), (1, address("b", 9), 1))
        self.assertEqual((cache.size(), self.labels(cache, 1)), (1, "b"))
        cache.put(1, address("c", 8), 2)
        self.assertEqual((cache.size(), self.labels(cache, 1)), (1, "b"))
        cache.put(1, address("b", 2, 8), 1)
        self.assertEqual(cache.find(1, ("b",), "A"), address("b", 2, 8))

    def test_entries_that_have_ended_are_removed_first(self):
        cache = self.put_all(4, (0, address("a", 5), 2), (0, ("b",), None, soa(6)), (0, address("c", 7), 1),
                             (0, address("d", 8), 1))
        self.assertEqual(cache.size(), 4)
        cache.put(6, address("e", 1), 1)
        self.assertEqual((cache.size(), self.labels(cache, 6)), (3, "cde"))

    def test_entries_that_have_ended_stay_up_to_the_limit(self):
        cache = self.put_all(3, (0, address("a", 5), 1), (0, address("b", 5), 1), (9, address("c", 5), 1))
        self.assertEqual((cache.size(), self.labels(cache, 9)), (3, "c"))
        cache.put(9, address("d", 5), 1)
        self.assertEqual((cache.size(), self.labels(cache, 9)), (2, "cd"))

    def test_a_replacement_does_not_exceed_the_limit(self):
        cache = self.put_all(3, (0, address("a", 5), 1), (0, address("b", 5), 1), (0, ("c",), "A", soa(5)),
                             (9, address("b", 5), 1), (9, ("c",), "A", soa(5)))
        self.assertEqual((cache.size(), self.labels(cache, 9)), (3, "bc"))

    def test_a_set_that_removes_a_negative_entry_makes_room(self):
        cache = self.put_all(2, (0, address("a", 5), 1), (0, ("b",), "A", soa(50)), (0, address("b", 50), 1))
        self.assertEqual((cache.size(), self.labels(cache, 0)), (2, "ab"))
        cache = self.put_all(2, (0, address("a", 5), 1), (0, ("b",), None, soa(50)), (0, address("b", 50), 1))
        self.assertEqual((cache.size(), self.labels(cache, 0)), (2, "ab"))

    def test_a_negative_entry_does_not_replace_a_set(self):
        cache = self.put_all(2, (0, address("a", 50), 1), (0, address("b", 40), 1), (0, ("a",), "A", soa(60)))
        self.assertEqual(cache.size(), 2)
        self.assertEqual(self.labels(cache, 0), "a")
        self.assertEqual(cache.find_negative(0, ("a",), "A"), (soa(60), False))

    def test_positive_and_negative_entries_are_counted_together(self):
        cache = self.put_all(4, (0, address("a", 9), 1), (0, ("a",), "A", soa(9)), (0, ("a",), None, soa(9)),
                             (0, ("a",), "TXT", soa(9)))
        self.assertEqual(cache.size(), 4)
        cache.put_negative(0, ("b",), "A", soa(10))
        self.assertEqual(cache.size(), 4)
        self.assertIsNone(cache.find(0, ("a",), "A"))


class RandomTest(unittest.TestCase):
    def test_random_puts_against_another_cache(self):
        source = random.Random(36)
        for _ in range(400):
            limit = source.choice([1, 2, 3, 5, 8])
            cache, other = Cache(limit), OtherCache(limit)
            now = 0
            for _ in range(60):
                now += source.choice([0, 0, 0, 1, 2, 3])
                name = (source.choice("abc"),)
                ttl = source.choice([0, 1, 2, 3, 4, 5, 6, 90000])
                if source.random() < 0.6:
                    put = (name, source.choice(["A", "MX"]), ttl, (source.randint(1, 9),))
                    rank = source.choice([1, 2])
                    cache.put(now, put, rank)
                    other.put(now, put, rank)
                else:
                    kind = source.choice(["A", "MX", None])
                    cache.put_negative(now, name, kind, soa(ttl))
                    other.put_negative(now, name, kind, soa(ttl))
                self.assertEqual(cache.size(), len(other.entries))
                for label in "abc":
                    for kind in ("A", "MX"):
                        for rank in (1, 2):
                            self.assertEqual(cache.find(now, (label,), kind, rank),
                                             other.find(now, (label,), kind, rank))
                        self.assertEqual(cache.find_negative(now, (label,), kind),
                                         other.find_negative(now, (label,), kind))


class ArgumentsTest(CacheCase):
    def test_the_sets_do_not_change(self):
        record_set, negative = address("a", 0, 1, 2), soa(90000)
        before = copy.deepcopy((record_set, negative))
        cache = self.put_all(3, (0, record_set, 1), (0, ("a",), "A", negative))
        cache.find(0, ("a",), "A")
        cache.find_negative(0, ("a",), "A")
        self.assertEqual((record_set, negative), before)

    def test_caches_do_not_share_their_entries(self):
        one, other = Cache(3), Cache(3)
        one.put(0, address("a", 5), 1)
        self.assertEqual((one.size(), other.size()), (1, 0))
