"""Tests of zoneward.records: points 1, 5 and 6, and the kinds of point 7."""

import copy
import inspect
import random
import unittest

from zoneward import records
from zoneward.records import code_of, kind_of, records_of, sets_of

RECORD_CODES = {1: "A", 2: "NS", 5: "CNAME", 6: "SOA", 15: "MX", 16: "TXT"}
QUERY_CODES = dict(RECORD_CODES) | {251: "IXFR", 252: "AXFR"}
# Values of each kind, in ascending order.
VALUES = {
    "A": (0, 9, 10, 4294967295),
    "NS": ((), ("a",), ("a", "b"), ("aa",), ("b",)),
    "CNAME": ((), ("a", "z"), ("b",)),
    "SOA": ((("a",), 1, 9, 9, 9, 9), (("a",), 2, 3, 4, 5, 6), (("b",), 1, 0, 0, 0, 0)),
    "MX": ((0, ("z",)), (9, ("z",)), (10, ("a",)), (10, ("b",)), (65535, ())),
    "TXT": ("", " ", "10", "9", "A", "a", "aa", "~" * 255),
}
OWNERS = [(), ("a",), ("b",), ("a", "b"), ("*", "b")]


def some_sets(source):
    """Returns sets as point 6 describes them: no two have the same name and kind."""
    keys = source.sample([(name, kind) for name in OWNERS for kind in VALUES], source.randint(0, 8))
    found = []
    for name, kind in keys:
        count = source.randint(1, len(VALUES[kind]))
        chosen = sorted(source.sample(range(len(VALUES[kind])), count))
        found.append((name, kind, source.randint(0, 5), tuple(VALUES[kind][at] for at in chosen)))
    return found


class InterfaceTest(unittest.TestCase):
    def test_the_functions_and_their_arguments(self):
        arguments = {"records_of": "(sets)", "sets_of": "(records)", "kind_of": "(code, is_query=False)"}
        for name, signature in arguments.items():
            function = getattr(records, name)
            self.assertEqual(function.__module__, "zoneward.records")
            self.assertEqual(str(inspect.signature(function)), signature)


class RecordsOfTest(unittest.TestCase):
    def test_no_sets(self):
        self.assertEqual(records_of([]), [])

    def test_a_record_for_each_value_in_order(self):
        for kind, values in VALUES.items():
            with self.subTest(kind):
                self.assertEqual(records_of([(("a", "b"), kind, 7, values)]),
                                 [(("a", "b"), kind, 7, value) for value in values])

    def test_sets_in_order(self):
        sets = [(("b",), "A", 2147483647, (3, 8)), (("a",), "MX", 0, ((1, ("m",)),)), ((), "A", 5, (1,))]
        self.assertEqual(records_of(sets), [
            (("b",), "A", 2147483647, 3), (("b",), "A", 2147483647, 8),
            (("a",), "MX", 0, (1, ("m",))), ((), "A", 5, 1)])

    def test_the_result_is_a_list_of_tuples(self):
        found = records_of([(("a",), "A", 1, (3,))])
        self.assertIs(found.__class__, list)
        self.assertIs(found[0].__class__, tuple)


class SetsOfTest(unittest.TestCase):
    def test_the_example_of_the_document(self):
        given = [(("a",), "A", 60, 9), (("b",), "A", 5, 1), (("a",), "A", 30, 4), (("a",), "A", 60, 9)]
        self.assertEqual(sets_of(given), [(("a",), "A", 30, (4, 9)), (("b",), "A", 5, (1,))])

    def test_no_records(self):
        self.assertEqual(sets_of([]), [])

    def test_one_record(self):
        self.assertEqual(sets_of([((), "TXT", 0, "")]), [((), "TXT", 0, ("",))])

    def test_equal_records(self):
        for kind, values in VALUES.items():
            with self.subTest(kind):
                record = (("a",), kind, 4, values[0])
                self.assertEqual(sets_of([record, record, record]), [(("a",), kind, 4, (values[0],))])

    def test_equal_values_with_different_ttls(self):
        for ttls in ([3, 2147483647], [2147483647, 3]):
            self.assertEqual(sets_of([(("a",), "A", ttl, 9) for ttl in ttls]), [(("a",), "A", 3, (9,))])

    def test_the_ttl_is_the_least_one_wherever_it_stands(self):
        for ttls in ([5, 6, 7], [6, 5, 7], [7, 6, 5], [0, 1, 2], [2, 1, 0], [2147483647, 0, 5]):
            with self.subTest(ttls):
                given = [(("a",), "A", ttl, at) for at, ttl in enumerate(ttls)]
                self.assertEqual(sets_of(given), [(("a",), "A", min(ttls), (0, 1, 2))])

    def test_the_ttl_of_one_set_does_not_touch_another_one(self):
        given = [(("a",), "A", 9, 1), (("a",), "TXT", 2, "x"), (("b",), "A", 3, 1), (("a",), "A", 8, 2)]
        self.assertEqual(sets_of(given),
                         [(("a",), "A", 8, (1, 2)), (("a",), "TXT", 2, ("x",)), (("b",), "A", 3, (1,))])

    def test_values_are_in_ascending_order(self):
        for kind, values in VALUES.items():
            for given in (values, values[::-1], values[1:] + values[:1]):
                with self.subTest(kind, given=given):
                    self.assertEqual(sets_of([(("a",), kind, 4, value) for value in given]),
                                     [(("a",), kind, 4, values)])

    def test_sets_are_in_the_order_of_their_first_records(self):
        given = [(("c",), "A", 1, 5), (("a",), "TXT", 1, "t"), (("b",), "A", 1, 6), (("a",), "A", 1, 7),
                 (("a",), "TXT", 1, "s"), (("c",), "A", 0, 4), (("b",), "A", 1, 6)]
        self.assertEqual(sets_of(given), [
            (("c",), "A", 0, (4, 5)), (("a",), "TXT", 1, ("s", "t")), (("b",), "A", 1, (6,)), (("a",), "A", 1, (7,))])

    def test_names_and_kinds_both_tell_sets_apart(self):
        given = [(name, kind, 1, ("x",)) for name in OWNERS for kind in ("NS", "CNAME")]
        self.assertEqual(sets_of(given), [(name, kind, 1, (("x",),)) for name, kind, _, _ in given])

    def test_the_result_is_a_list_of_tuples_with_tuples_of_values(self):
        found = sets_of([(("a",), "A", 1, 3)])
        self.assertEqual([found.__class__, found[0].__class__, found[0][3].__class__], [list, tuple, tuple])

    def test_limits_that_are_passed_raise_no_error(self):
        sets = [(("a" * 64,) * 5, "A", 2147483648, (4294967296,)), ((), "TXT", 2147483649, ("x" * 256,)),
                (("b",), "MX", 3000000000, ((65536, ("c",)),))]
        self.assertEqual(sets_of(records_of(sets)), sets)

    def test_the_sets_of_the_records_of_sets_are_these_sets(self):
        source = random.Random(6)
        for _ in range(300):
            sets = some_sets(source)
            self.assertEqual(sets_of(records_of(sets)), sets)

    def test_the_order_of_the_records_of_a_set_does_not_matter(self):
        source = random.Random(5)
        for _ in range(300):
            given = records_of(some_sets(source))
            mixed = given + source.choices(given, k=3) if given else []
            source.shuffle(mixed)
            self.assertEqual(sorted(sets_of(mixed), key=repr), sorted(sets_of(given), key=repr))


class KindOfTest(unittest.TestCase):
    def test_record_kinds(self):
        for code in range(-3, 70000):
            self.assertEqual(kind_of(code), RECORD_CODES.get(code), code)
            self.assertEqual(kind_of(code, False), RECORD_CODES.get(code), code)

    def test_query_kinds(self):
        for code in range(-3, 70000):
            self.assertEqual(kind_of(code, True), QUERY_CODES.get(code), code)

    def test_the_argument_has_a_name(self):
        self.assertEqual(kind_of(252, is_query=True), "AXFR")
        self.assertEqual(kind_of(251, is_query=True), "IXFR")
        self.assertIsNone(kind_of(252, is_query=False))

    def test_codes_that_are_none(self):
        for code in (0, 3, 4, 7, 14, 17, 250, 253, 255, 256, 257, 65535):
            self.assertIsNone(kind_of(code))
            self.assertIsNone(kind_of(code, is_query=True))


class CodeOfTest(unittest.TestCase):
    def test_each_kind_has_its_code(self):
        for code, kind in QUERY_CODES.items():
            self.assertEqual(code_of(kind), code)


class ArgumentsTest(unittest.TestCase):
    def test_the_arguments_do_not_change(self):
        source = random.Random(1)
        for _ in range(50):
            sets = some_sets(source)
            before = copy.deepcopy(sets)
            given = records_of(sets)
            self.assertEqual(sets, before)
            source.shuffle(given)
            before = copy.deepcopy(given)
            sets_of(given)
            self.assertEqual(given, before)

    def test_calls_do_not_share_their_results(self):
        given = [(("a",), "A", 1, 3)]
        sets_of(given).clear()
        self.assertEqual(sets_of(given), [(("a",), "A", 1, (3,))])
        sets = sets_of(given)
        records_of(sets).clear()
        self.assertEqual(records_of(sets), given)
