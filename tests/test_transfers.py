"""Tests of zoneward.transfers: points 1 and 31 (its forms)."""

import copy
import inspect
import random
import unittest

from zoneward import transfers
from zoneward.changes import apply_difference, difference, edit_zone
from zoneward.errors import InvalidZone
from zoneward.records import records_of, sets_of
from zoneward.transfers import difference_records, full_copy, zone_after
from zoneward.zones import Zone, check_zone, zone_of

ORIGIN = ("z",)
SOA = (ORIGIN, "SOA", 90, ((("s", "z"), 7, 2, 3, 4, 50),))
SOA_RECORD = (ORIGIN, "SOA", 90, (("s", "z"), 7, 2, 3, 4, 50))
NS = (ORIGIN, "NS", 80, (("r", "z"), ("s", "z")))
HOSTS = [(("r", "z"), "A", 70, (3,)), (("s", "z"), "A", 70, (1, 2))]
TEXT = (("t", "z"), "TXT", 5, ("x", "y"))
ZONE = zone_of(ORIGIN, [TEXT, HOSTS[0], SOA, NS, HOSTS[1]])


def soa_record(serial):
    return (ORIGIN, "SOA", 90, (("s", "z"), serial, 2, 3, 4, 50))


def text(label, value="t"):
    return ((label, "z"), "TXT", 5, (value,))


def versions(*edits):
    """The zones before and after the edits, and the differences between them."""
    found = [ZONE]
    for acts in edits:
        found.append(edit_zone(found[-1], acts))
    return found, [difference(old, new) for old, new in zip(found, found[1:])]


VERSIONS, CHANGES = versions([("drop", ("t", "z"), "TXT"), ("put", text("a"))], [],
                             [("put", text("a", "u")), ("put", text("b")), ("drop", ("q", "z"), "A")])


class InterfaceTest(unittest.TestCase):
    def test_the_functions_and_their_arguments(self):
        for name, signature in {"full_copy": "(zone)", "difference_records": "(zone, changes)"}.items():
            function = getattr(transfers, name)
            self.assertEqual(function.__module__, "zoneward.transfers")
            self.assertEqual(str(inspect.signature(function)), signature)


class FullCopyTest(unittest.TestCase):
    def test_the_order(self):
        self.assertEqual(full_copy(ZONE), [
            SOA_RECORD, (("t", "z"), "TXT", 5, "x"), (("t", "z"), "TXT", 5, "y"), (("r", "z"), "A", 70, 3),
            (ORIGIN, "NS", 80, ("r", "z")), (ORIGIN, "NS", 80, ("s", "z")), (("s", "z"), "A", 70, 1),
            (("s", "z"), "A", 70, 2), SOA_RECORD])

    def test_the_place_of_the_soa_set_does_not_matter(self):
        others = [TEXT, HOSTS[0], NS, HOSTS[1]]
        for at in range(5):
            zone = zone_of(ORIGIN, others[:at] + [SOA] + others[at:])
            self.assertEqual(full_copy(zone), [SOA_RECORD, *records_of(others), SOA_RECORD])

    def test_the_least_zone(self):
        zone = zone_of((), [((), "NS", 1, (("q",),)), (("q",), "A", 2, (5,)), ((), "SOA", 3, (((), 0, 0, 0, 0, 0),))])
        soa = ((), "SOA", 3, ((), 0, 0, 0, 0, 0))
        self.assertEqual(full_copy(zone), [soa, ((), "NS", 1, ("q",)), (("q",), "A", 2, 5), soa])

    def test_new_lists(self):
        full_copy(ZONE).clear()
        self.assertIs(full_copy(ZONE).__class__, list)
        self.assertEqual(len(full_copy(ZONE)), 9)
        self.assertEqual(ZONE.sets, [TEXT, HOSTS[0], SOA, NS, HOSTS[1]])


class DifferenceRecordsTest(unittest.TestCase):
    def test_no_difference(self):
        self.assertEqual(difference_records(ZONE, []), [SOA_RECORD, SOA_RECORD])

    def test_one_difference(self):
        self.assertEqual(difference_records(VERSIONS[1], CHANGES[:1]), [
            soa_record(8), soa_record(7), (("t", "z"), "TXT", 5, "x"), (("t", "z"), "TXT", 5, "y"), soa_record(8),
            (("a", "z"), "TXT", 5, "t"), soa_record(8)])

    def test_an_empty_difference(self):
        self.assertEqual(difference_records(VERSIONS[2], CHANGES[1:2]),
                         [soa_record(9), soa_record(8), soa_record(9), soa_record(9)])

    def test_several_differences(self):
        self.assertEqual(difference_records(VERSIONS[3], CHANGES), [
            soa_record(10), soa_record(7), (("t", "z"), "TXT", 5, "x"), (("t", "z"), "TXT", 5, "y"), soa_record(8),
            (("a", "z"), "TXT", 5, "t"), soa_record(8), soa_record(9), soa_record(9), (("a", "z"), "TXT", 5, "t"),
            soa_record(10), (("a", "z"), "TXT", 5, "u"), (("b", "z"), "TXT", 5, "t"), soa_record(10)])

    def test_the_order_of_the_differences_and_of_their_sets(self):
        change = (SOA, [text("c"), text("a")], VERSIONS[1].soa(), [text("e"), text("d")])
        other = (VERSIONS[1].soa(), [text("d")], VERSIONS[2].soa(), [])
        self.assertEqual(difference_records(VERSIONS[2], [change, other]), [
            soa_record(9), soa_record(7), *records_of([text("c"), text("a")]), soa_record(8),
            *records_of([text("e"), text("d")]), soa_record(8), *records_of([text("d")]), soa_record(9), soa_record(9)])

    def test_new_lists_and_arguments_that_do_not_change(self):
        changes = copy.deepcopy(CHANGES)
        found = difference_records(VERSIONS[3], changes)
        found.clear()
        self.assertEqual(changes, CHANGES)
        self.assertIs(found.__class__, list)
        self.assertEqual(len(difference_records(VERSIONS[3], changes)), 14)
        self.assertEqual(VERSIONS[3].serial(), 10)


def after_in_another_way(zone, records):
    """The zone after a transfer, by going over the records one by one."""
    soas = [at for at, record in enumerate(records) if record[1] == "SOA"]
    if any(records[at][0] != ORIGIN for at in soas) or soas[:1] != [0] or soas[-1:] != [len(records) - 1]:
        return None
    newest = sets_of(records[:1])[0]
    if len(records) == 1:
        return zone if zone is not None and zone.soa()[3][0][1] == newest[3][0][1] else None
    if records[-1] != records[0]:
        return None
    if soas[1] > 1:
        result = Zone(ORIGIN, sets_of(records[:-1])) if len(soas) == 2 else None
    else:
        if len(soas) % 2 or len(soas) < 4 or zone is None:
            return None
        parts = [sets_of(records[soas[at]:soas[at + 1]]) for at in range(1, len(soas) - 1)]
        result = zone
        for old, new in zip(parts[::2], parts[1::2]):
            remaining = [one for one in result.sets if one not in old]
            keys = [one[:2] for one in remaining]
            if any(one not in result.sets for one in old) or any(one[:2] in keys for one in new[1:]):
                return None
            result = Zone(ORIGIN, new + remaining)
        if result.soa() != newest:
            return None
    try:
        check_zone(result)
    except (InvalidZone, AttributeError):
        return None
    return result


class ZoneAfterTest(unittest.TestCase):
    def check(self, zone, records, expected):
        before = copy.deepcopy((vars(zone) if zone else None, records))
        with self.subTest(records=records):
            self.assertEqual(zone_after(ORIGIN, zone, records), expected)
            self.assertEqual(after_in_another_way(zone, records), expected)
            self.assertEqual((vars(zone) if zone else None, records), before)

    def test_no_records_and_no_soa_record(self):
        for zone in (None, ZONE):
            self.check(zone, [], None)
            self.check(zone, records_of([TEXT]), None)
            self.check(zone, records_of([NS]), None)
            for record in (*records_of([HOSTS[0]]), (("t", "z"), "TXT", 5, "x"), (ORIGIN, "NS", 80, ("s", "z"))):
                self.check(zone, [record], None)
                self.check(zone, [record, record], None)
                self.check(zone, [record, *full_copy(ZONE), record], None)
            self.check(zone, full_copy(ZONE)[1:], None)
            self.check(zone, full_copy(ZONE)[:-1], None)

    def test_one_soa_record(self):
        self.check(ZONE, [SOA_RECORD], ZONE)
        self.check(None, [SOA_RECORD], None)
        self.check(ZONE, [soa_record(8)], None)
        self.check(ZONE, [soa_record(6)], None)
        self.check(ZONE, [((), *SOA_RECORD[1:])], None)

    def test_one_soa_record_with_the_serial_alone(self):
        self.check(ZONE, [(ORIGIN, "SOA", 1, (("other",), 7, 5, 6, 7, 8))], ZONE)

    def test_a_full_copy(self):
        for zone in (None, ZONE, VERSIONS[3]):
            found = zone_after(ORIGIN, zone, full_copy(ZONE))
            self.assertEqual(found.sets, [SOA, TEXT, HOSTS[0], NS, HOSTS[1]])
            self.assertEqual(found.origin, ORIGIN)

    def test_the_sets_of_a_full_copy_are_formed(self):
        first, *others = full_copy(ZONE)[:-1]
        more = [(("s", "z"), "A", 60, 0), (("t", "z"), "TXT", 9, "x")]
        found = zone_after(ORIGIN, None, [first, *others[::-1], *more, first])
        self.assertEqual(found.sets, [SOA, (("s", "z"), "A", 60, (0, 1, 2)), NS, HOSTS[0], TEXT])

    def test_copies_with_soa_records_in_the_middle(self):
        copied = full_copy(ZONE)
        for at in range(1, len(copied)):
            for record in (SOA_RECORD, soa_record(8), (("t", "z"), *SOA_RECORD[1:]), ((), *SOA_RECORD[1:])):
                self.check(ZONE, copied[:at] + [record] + copied[at:], None)
                self.check(None, copied[:at] + [record] + copied[at:], None)

    def test_copies_that_end_with_another_record(self):
        for last in (soa_record(8), (ORIGIN, "SOA", 91, SOA_RECORD[3]), ((), *SOA_RECORD[1:])):
            self.check(None, full_copy(ZONE)[:-1] + [last], None)
            self.check(None, [last] + full_copy(ZONE)[1:], None)

    def test_a_copy_of_another_origin(self):
        records = full_copy(zone_of((), [((), *SOA[1:]), ((), "NS", 80, (("s", "z"),)), HOSTS[1]]))
        self.check(None, records, None)
        self.assertIsNotNone(zone_after((), None, records))

    def test_copies_of_zones_that_are_not_valid(self):
        for others in ([], [HOSTS[0]], [NS], [NS, HOSTS[0]], [NS, *HOSTS, (("y",), "A", 1, (1,))],
                       [NS, *HOSTS, (("*", "z"), "NS", 1, (("q",),))], [NS, *HOSTS, (("r", "z"), "CNAME", 1, (("q",),))]):
            self.check(None, [SOA_RECORD, *records_of(others), SOA_RECORD], None)

    def test_differences(self):
        for first in range(3):
            records = difference_records(VERSIONS[3], CHANGES[first:])
            self.check(VERSIONS[first], records, VERSIONS[3])
            self.check(None, records, None)
            for other in VERSIONS[:first] + VERSIONS[first + 1:]:
                self.check(other, records, None)

    def test_the_order_of_the_sets_after_differences(self):
        found = zone_after(ORIGIN, ZONE, difference_records(VERSIONS[3], CHANGES))
        self.assertEqual(found.sets, [HOSTS[0], VERSIONS[3].soa(), NS, HOSTS[1], text("a", "u"), text("b")])

    def test_no_differences(self):
        self.check(ZONE, [SOA_RECORD, SOA_RECORD], None)
        self.check(ZONE, [SOA_RECORD] * 3, None)
        self.check(None, [SOA_RECORD, SOA_RECORD], None)

    def test_a_difference_to_the_same_version(self):
        self.check(ZONE, [SOA_RECORD] * 4, ZONE)

    def test_the_newest_record_must_be_the_last_new_one(self):
        for changes in (CHANGES[:1], CHANGES[:2]):
            self.check(ZONE, difference_records(VERSIONS[3], changes), None)
        records = difference_records(VERSIONS[3], CHANGES)
        for newest in (soa_record(11), (ORIGIN, "SOA", 91, soa_record(10)[3])):
            self.check(ZONE, [newest, *records[1:-1], newest], None)

    def test_differences_that_lack_a_half(self):
        self.check(ZONE, [soa_record(8), SOA_RECORD, soa_record(8)], None)
        self.check(ZONE, [soa_record(8), SOA_RECORD, soa_record(8), soa_record(8), soa_record(8)], None)

    def test_results_that_are_not_valid(self):
        last = VERSIONS[1].soa()
        for removed, added in [([NS], []), ([HOSTS[0]], []), ([], [(("y",), "A", 1, (1,))]),
                               ([], [(("t", "z"), "CNAME", 1, (("q",),))])]:
            self.check(ZONE, difference_records(VERSIONS[1], [(SOA, removed, last, added)]), None)
        # What is between two differences need not be valid.
        changes = [(SOA, [NS], last, []), (last, [], VERSIONS[2].soa(), [NS])]
        self.check(ZONE, difference_records(VERSIONS[2], changes), zone_of(ORIGIN, [VERSIONS[2].soa(), TEXT, NS, *HOSTS]))

    def test_soa_records_of_another_name(self):
        records = difference_records(VERSIONS[3], CHANGES)
        for at, record in enumerate(records):
            if record[1] == "SOA":
                self.check(ZONE, records[:at] + [(("t", "z"), *record[1:])] + records[at + 1:], None)

    def test_records_left_out_doubled_and_moved(self):
        source = random.Random(31)
        counts = {}
        for zone, records in [(None, full_copy(ZONE)), (VERSIONS[1], full_copy(ZONE)),
                              (ZONE, difference_records(VERSIONS[1], CHANGES[:1])),
                              (ZONE, difference_records(VERSIONS[3], CHANGES)), (ZONE, [SOA_RECORD])]:
            for at in range(len(records)):
                rest = records[:at] + records[at + 1:]
                places = range(len(rest) + 1)
                for changed in [rest] + [rest[:to] + [records[at]] * many + rest[to:] for to in places for many in (1, 2)]:
                    expected = after_in_another_way(zone, changed)
                    self.check(zone, changed, expected)
                    counts[expected is None] = counts.get(expected is None, 0) + 1
            for _ in range(200):
                changed = source.sample(records, len(records))
                self.check(zone, changed, after_in_another_way(zone, changed))
        self.assertGreater(min(counts[True], counts[False]), 50)

    def test_applying_in_two_ways(self):
        zone = ZONE
        for change in CHANGES:
            zone = apply_difference(zone, change)
        self.assertEqual(zone_after(ORIGIN, ZONE, difference_records(VERSIONS[3], CHANGES)), zone)
